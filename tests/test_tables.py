"""Promises 1 and 2, as far as they speak of tables: ordinary inputs and edges."""

import copy
import inspect
import itertools
import unittest

from wholeahead.tables import ahead_of, turned


def every_table(rows, columns):
    for signs in itertools.product("x-", repeat=rows * columns):
        text = "".join(signs)
        yield [text[row * columns:(row + 1) * columns] for row in range(rows)]


def patterned(rows, columns):
    return ["".join("x" if (row * row + 3 * column) % 7 < 3 else "-" for column in range(columns))
            for row in range(rows)]


class Told(unittest.TestCase):
    def assert_plain_list(self, told, kind):
        self.assertIs(type(told), list)
        for part in told:
            self.assertIs(type(part), kind)

    def assert_turned(self, table):
        told = turned(table)
        self.assert_plain_list(told, str)
        self.assertEqual(len(told), len(table[0]) if table else 0)
        for column, text in enumerate(told):
            self.assertEqual(len(text), len(table))
            for row, sign in enumerate(text):
                if sign != table[row][column]:
                    self.fail(f"the sign of row {row} and column {column}")

    def assert_ahead(self, table, thing):
        told = ahead_of(table, thing)
        self.assert_plain_list(told, int)
        expected = []
        for one in range(len(table)):
            if table[one][thing] == "x":
                expected.append(one)
        self.assertEqual(told, expected)


class Turned(Told):
    def test_the_argument_is_called_table(self):
        self.assertEqual(list(inspect.signature(turned).parameters), ["table"])
        self.assertEqual(turned(table=["x-"]), ["x", "-"])

    def test_a_square_table(self):
        self.assertEqual(turned(["xx-", "--x", "---"]), ["x--", "x--", "-x-"])

    def test_tables_that_are_not_square(self):
        self.assertEqual(turned(["xx-", "--x"]), ["x-", "x-", "-x"])
        self.assertEqual(turned(["x-", "x-", "-x"]), ["xx-", "--x"])

    def test_no_rows(self):
        self.assertEqual(turned([]), [])

    def test_rows_of_no_signs(self):
        for count in (1, 2, 5):
            self.assertEqual(turned([""] * count), [])

    def test_one_row(self):
        self.assertEqual(turned(["x--x"]), ["x", "-", "-", "x"])

    def test_one_column(self):
        self.assertEqual(turned(["x", "-", "-", "x"]), ["x--x"])

    def test_one_sign(self):
        self.assertEqual(turned(["x"]), ["x"])
        self.assertEqual(turned(["-"]), ["-"])

    def test_every_small_table(self):
        for rows, columns in itertools.product(range(4), repeat=2):
            for table in every_table(rows, columns):
                self.assert_turned(table)

    def test_turned_and_turned_back(self):
        for rows, columns in itertools.product(range(1, 4), repeat=2):
            for table in every_table(rows, columns):
                self.assertEqual(turned(turned(table)), table)

    def test_large_tables(self):
        for rows, columns in ((400, 400), (3, 20000), (20000, 3), (1, 50000), (50000, 1)):
            with self.subTest(rows=rows, columns=columns):
                table = patterned(rows, columns)
                self.assert_turned(table)
                # Not assertEqual: to show where such long lists differ takes it minutes.
                self.assertTrue(turned(turned(table)) == table)

    def test_many_rows_of_no_signs(self):
        self.assertEqual(turned([""] * 50000), [])


class AheadOf(Told):
    def test_the_arguments_are_called_table_and_thing(self):
        self.assertEqual(list(inspect.signature(ahead_of).parameters), ["table", "thing"])
        self.assertEqual(ahead_of(table=["x"], thing=0), [0])

    def test_each_thing_of_a_table(self):
        table = ["-xx", "--x", "---"]
        self.assertEqual([ahead_of(table, thing) for thing in range(3)], [[], [0], [0, 1]])

    def test_a_thing_that_is_ahead_of_itself(self):
        table = ["x-x", "-x-", "--x"]
        self.assertEqual([ahead_of(table, thing) for thing in range(3)], [[0], [1], [0, 2]])

    def test_each_ahead_of_the_other(self):
        table = ["-x", "x-"]
        self.assertEqual([ahead_of(table, thing) for thing in range(2)], [[1], [0]])

    def test_all_ahead_and_none_ahead(self):
        for thing in range(4):
            self.assertEqual(ahead_of(["xxxx"] * 4, thing), [0, 1, 2, 3])
            self.assertEqual(ahead_of(["----"] * 4, thing), [])

    def test_one_thing(self):
        self.assertEqual(ahead_of(["x"], 0), [0])
        self.assertEqual(ahead_of(["-"], 0), [])

    def test_every_small_table(self):
        for things in range(1, 4):
            for table in every_table(things, things):
                for thing in range(things):
                    self.assert_ahead(table, thing)

    def test_a_large_table(self):
        table = patterned(400, 400)
        for thing in range(400):
            self.assert_ahead(table, thing)

    def test_a_larger_table_with_its_last_thing(self):
        self.assert_ahead(patterned(2000, 2000), 1999)


class NothingChangedOrKept(unittest.TestCase):
    def test_what_is_handed_in_stays_as_it_was(self):
        for table in (["xx-", "--x", "---"], ["x-"], ["", ""], []):
            before = copy.deepcopy(table)
            turned(table)
            self.assertEqual(table, before)
            if len(table) == 3:
                for thing in range(3):
                    ahead_of(table, thing)
                self.assertEqual(table, before)

    def test_what_is_told_is_new(self):
        table = ["x-", "-x"]
        self.assertIsNot(turned(table), table)
        self.assertIsNot(turned(table), turned(table))
        self.assertIsNot(turned([]), turned([]))
        self.assertIsNot(ahead_of(table, 0), ahead_of(table, 0))
        self.assertIsNot(ahead_of(["-"], 0), ahead_of(["-"], 0))
        empty = []
        self.assertIsNot(turned(empty), empty)

    def test_changing_what_was_told(self):
        for table in (["x-", "-x"], ["x"], []):
            told = turned(table)
            expected = list(told)
            told.append("other")
            self.assertEqual(turned(table), expected)
        for table in (["x-", "xx"], ["--", "--"]):
            told = ahead_of(table, 0)
            expected = list(told)
            told.append(7)
            self.assertEqual(ahead_of(table, 0), expected)

    def test_changing_what_was_handed_in(self):
        table = ["x-", "-x"]
        was_turned = turned(table)
        was_ahead = ahead_of(table, 0)
        table[1] = "x-"
        self.assertEqual(was_turned, ["x-", "-x"])
        self.assertEqual(was_ahead, [0])
        self.assertEqual(turned(table), ["xx", "--"])
        self.assertEqual(ahead_of(table, 0), [0, 1])
        table.append("--")
        self.assertEqual(turned(table), ["xx-", "---"])
        table.clear()
        self.assertEqual(turned(table), [])

    def test_a_refusal_leaves_nothing_behind(self):
        table = ["x-", "-"]
        for attempt in (lambda: turned(table), lambda: ahead_of(table, 0)):
            with self.assertRaises(ValueError):
                attempt()
            self.assertEqual(table, ["x-", "-"])
        table[1] = "-x"
        self.assertEqual(turned(table), ["x-", "-x"])
        self.assertEqual(ahead_of(table, 1), [1])


if __name__ == "__main__":
    unittest.main()
