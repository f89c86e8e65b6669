"""Promises 3 to 6: what steps, stretches, ranks and line tell, held against the table sign by sign."""

import copy
import inspect
import itertools
import random
import unittest

import looks
from wholeahead import answers
from wholeahead.tables import turned
from wholeahead.telling import line, ranks, steps, stretches

TELLING = {
    steps: ("Steps", ["Cross"]),
    stretches: ("Stretches", ["Self", "Cross"]),
    ranks: ("Ranks", ["Self", "Mutual", "Beside"]),
    line: ("Line", ["Self", "Mutual", "Neither", "Round"]),
}
SQUARE = (stretches, ranks, line)


def table_by(rows, columns, rule):
    return ["".join("x" if rule(row, column) else "-" for column in range(columns)) for row in range(rows)]


def with_sign(table, row, column, sign):
    changed = list(table)
    changed[row] = table[row][:column] + sign + table[row][column + 1:]
    return changed


def other_sign(table, row, column):
    return with_sign(table, row, column, "-" if table[row][column] == "x" else "x")


def shuffled(total, seed):
    order = list(range(total))
    random.Random(seed).shuffle(order)
    return order


class Told(unittest.TestCase):
    def assert_told(self, telling, table):
        told = telling(table)
        name = looks.name_of(told)
        good, bars = TELLING[telling]
        if name != good and name not in bars:
            self.fail(f"{telling.__name__} told a {name}")
        self.assertIs(type(told), getattr(answers, name))
        if not looks.is_as_told(told, table):
            self.fail(f"{telling.__name__} told a {name} that isn't so: {looks.fields_of(told)} of {table[:20]}")
        self.assertIs(told.shows(table), True)
        return name

    def assert_tells(self, telling, table, names):
        self.assertIn(self.assert_told(telling, table), names.split())

    def assert_due(self, telling, table):
        name = self.assert_told(telling, table)
        good, bars = TELLING[telling]
        barred = any(looks.is_barred(table, bar) for bar in bars)
        if barred == (name == good):
            self.fail(f"{telling.__name__} told a {name} of {table}")


class TheInterface(unittest.TestCase):
    def test_each_takes_a_table_by_that_name(self):
        for telling, (good, bars) in TELLING.items():
            self.assertEqual(list(inspect.signature(telling).parameters), ["table"])
            self.assertEqual(looks.name_of(telling(table=["-"])), good)


class EverySmallTable(Told):
    def test_steps(self):
        for rows, columns in itertools.product(range(5), repeat=2):
            if rows * columns < 16:
                for table in looks.every_table(rows, columns):
                    self.assert_due(steps, table)

    def test_steps_of_all_tables_of_four_rows_and_columns(self):
        for table in looks.every_table(4, 4):
            self.assert_due(steps, table)

    def test_steps_of_long_and_wide_tables(self):
        for rows, columns in ((2, 6), (6, 2), (1, 10), (10, 1)):
            for table in looks.every_table(rows, columns):
                self.assert_due(steps, table)

    def test_stretches(self):
        for table in looks.every_square_table(4):
            self.assert_due(stretches, table)

    def test_ranks(self):
        for table in looks.every_square_table(4):
            self.assert_due(ranks, table)

    def test_line(self):
        for table in looks.every_square_table(4):
            self.assert_due(line, table)

    def test_five_things_of_which_just_one_is_ahead_of_any_two(self):
        pairs = list(itertools.combinations(range(5), 2))
        for turns in itertools.product((False, True), repeat=len(pairs)):
            ahead = {(other, one) if turn else (one, other) for turn, (one, other) in zip(turns, pairs)}
            table = table_by(5, 5, lambda one, other: (one, other) in ahead)
            for telling in SQUARE:
                self.assert_due(telling, table)

    def test_tables_of_five_and_six_by_stretches(self):
        source = random.Random(5)
        for things in (5, 6):
            for turn in range(300):
                begins = [source.randrange(things) for thing in range(things)]
                ends = [begin + source.randrange(3) for begin in begins]
                table = table_by(things, things, lambda one, other: ends[one] < begins[other])
                row, column = source.randrange(things), source.randrange(things)
                for telling in TELLING:
                    self.assert_due(telling, table)
                    self.assert_due(telling, other_sign(table, row, column))


class NeverBoth(unittest.TestCase):
    """Where a bar is there, no numbers whatever do; where there is none, some do."""

    def assert_just_one(self, telling, table, candidates):
        good, bars = TELLING[telling]
        made = any(looks.LOOKS[good](table, *fields) for fields in candidates)
        self.assertNotEqual(made, any(looks.is_barred(table, bar) for bar in bars), table)
        self.assertEqual(looks.name_of(telling(table)) == good, made, table)

    def test_steps(self):
        for rows, columns in ((0, 0), (1, 0), (2, 0), (1, 1), (1, 3), (3, 1), (2, 2), (2, 3), (3, 2)):
            lists = [[list(numbers) for numbers in itertools.product(range(4), repeat=length)]
                     for length in (rows, columns)]
            for table in looks.every_table(rows, columns):
                self.assert_just_one(steps, table, itertools.product(*lists))

    def test_stretches(self):
        for table in looks.every_square_table(3):
            things = range(len(table))
            lists = [list(numbers) for numbers in itertools.product(things, repeat=len(table))]
            chosen = [list(some) for many in range(len(table) + 1) for some in itertools.combinations(things, many)]
            self.assert_just_one(stretches, table, itertools.product(lists, lists, chosen))

    def test_ranks(self):
        for table in looks.every_square_table(3):
            lists = [(list(numbers),) for numbers in itertools.product(range(len(table)), repeat=len(table))]
            self.assert_just_one(ranks, table, lists)

    def test_line(self):
        for table in looks.every_square_table(3):
            self.assert_just_one(line, table, [(list(order),) for order in itertools.permutations(range(len(table)))])


class EachClass(Told):
    def test_steps(self):
        self.assert_tells(steps, ["xxx", "xx-", "---"], "Steps")
        self.assert_tells(steps, ["x--", "xxx", "xx-", "xx-"], "Steps")
        self.assert_tells(steps, ["x-", "-x"], "Cross")
        self.assert_tells(steps, ["xxx-", "xx-x"], "Cross")
        self.assert_tells(steps, ["xxx-", "xxxx", "----", "x--x"], "Cross")

    def test_steps_of_square_tables_go_by_rows_and_columns_alone(self):
        self.assert_tells(steps, ["x"], "Steps")
        self.assert_tells(steps, ["xx", "xx"], "Steps")
        self.assert_tells(steps, ["-x", "x-"], "Cross")

    def test_stretches(self):
        self.assert_tells(stretches, ["-xx", "--x", "---"], "Stretches")
        self.assert_tells(stretches, ["--xx", "---x", "----", "----"], "Stretches")
        self.assert_tells(stretches, ["x-", "--"], "Self")
        self.assert_tells(stretches, ["-x--", "----", "---x", "----"], "Cross")
        self.assert_tells(stretches, ["-x-", "--x", "---"], "Cross")
        self.assert_tells(stretches, ["-x", "x-"], "Cross")

    def test_stretches_where_both_bars_are_there(self):
        self.assert_tells(stretches, ["x-", "-x"], "Self Cross")

    def test_ranks(self):
        self.assert_tells(ranks, ["-xx", "---", "---"], "Ranks")
        self.assert_tells(ranks, ["---", "---", "---"], "Ranks")
        self.assert_tells(ranks, ["--", "-x"], "Self")
        self.assert_tells(ranks, ["-x", "x-"], "Mutual")
        self.assert_tells(ranks, ["-x-", "---", "---"], "Beside")
        self.assert_tells(ranks, ["-x-", "--x", "x--"], "Beside")
        self.assert_tells(ranks, ["-x-", "--x", "---"], "Beside")

    def test_line(self):
        self.assert_tells(line, ["---", "x-x", "x--"], "Line")
        self.assertEqual(line(["---", "x-x", "x--"]).order, [1, 2, 0])
        self.assert_tells(line, ["-x", "-x"], "Self")
        self.assert_tells(line, ["-xx", "--x", "-x-"], "Mutual")
        self.assert_tells(line, ["-xx", "---", "---"], "Neither")
        self.assert_tells(line, ["-x-", "--x", "x--"], "Round")
        self.assert_tells(line, ["--x", "x--", "-x-"], "Round")

    def test_two_are_not_taken_for_three(self):
        self.assert_tells(ranks, ["-x", "--"], "Ranks")
        self.assert_tells(line, ["--", "--"], "Neither")
        self.assert_tells(line, ["-"], "Line")


class Edges(Told):
    def test_no_rows(self):
        for telling, (good, bars) in TELLING.items():
            told = telling([])
            self.assertEqual(looks.name_of(told), good)
            for field in looks.fields_of(told):
                self.assertEqual(field, [])
            self.assertIs(told.shows([]), True)

    def test_rows_of_no_signs(self):
        for rows in (1, 2, 5, 1000):
            told = steps([""] * rows)
            self.assertEqual(looks.name_of(told), "Steps")
            self.assertEqual((len(told.rows), told.columns), (rows, []))
            self.assertIs(told.shows([""] * rows), True)

    def test_one_row_and_one_column(self):
        for signs in ("x", "-", "x-", "-x", "xx", "--", "x-x-x", "x" * 300, "-" * 300, "x-" * 300):
            self.assert_tells(steps, [signs], "Steps")
            self.assert_tells(steps, list(signs), "Steps")

    def test_one_thing(self):
        for telling, (good, bars) in TELLING.items():
            self.assert_tells(telling, ["-"], good)
        for telling in SQUARE:
            self.assert_tells(telling, ["x"], "Self")

    def test_all_signs_alike(self):
        for sign in "x-":
            for rows, columns in ((2, 2), (3, 5), (5, 3), (40, 40)):
                self.assert_tells(steps, [sign * columns] * rows, "Steps")
        for things in (2, 3, 40):
            self.assert_tells(stretches, ["-" * things] * things, "Stretches")
            self.assert_tells(ranks, ["-" * things] * things, "Ranks")
            self.assert_tells(line, ["-" * things] * things, "Neither")


class Turned(Told):
    def test_steps_of_a_table_turned(self):
        for rows, columns in itertools.product(range(1, 4), repeat=2):
            for table in looks.every_table(rows, columns):
                self.assertEqual(self.assert_told(steps, table), self.assert_told(steps, turned(table)))

    def test_good_answers_of_a_square_table_turned(self):
        for table in looks.every_square_table(3):
            for telling in SQUARE:
                good = TELLING[telling][0]
                first = self.assert_told(telling, table) == good
                self.assertEqual(first, self.assert_told(telling, turned(table)) == good)

    def test_a_line_turned_is_the_other_way_round(self):
        order = shuffled(30, 1)
        table = table_by(30, 30, lambda one, other: order.index(one) < order.index(other))
        self.assertEqual(line(table).order, order)
        self.assertEqual(line(turned(table)).order, order[::-1])

    def test_a_cross_turned_shows_in_the_table_turned(self):
        for table in looks.every_table(3, 3):
            told = steps(table)
            if looks.name_of(told) == "Cross":
                other_way = answers.Cross(told.first, told.one, told.second, told.other)
                self.assertIs(other_way.shows(turned(table)), True)


class LargeTables(Told):
    def test_steps(self):
        for rows, columns in ((300, 300), (5, 5000), (5000, 5), (1, 30000), (30000, 1)):
            heights = [(row * 7919) % 101 for row in range(rows)]
            bounds = [(column * 104729) % 103 for column in range(columns)]
            table = table_by(rows, columns, lambda row, column: heights[row] > bounds[column])
            self.assert_tells(steps, table, "Steps")
            if rows > 1 and columns > 1:
                self.assert_tells(steps, with_crossed_corner(table), "Cross")

    def test_stretches(self):
        source = random.Random(11)
        begins = [source.randrange(200) for thing in range(300)]
        ends = [begin + source.randrange(60) for begin in begins]
        table = table_by(300, 300, lambda one, other: ends[one] < begins[other])
        self.assert_tells(stretches, table, "Stretches")
        self.assert_tells(stretches, with_sign(table, 299, 299, "x"), "Self Cross")
        self.assert_tells(steps, table, "Steps")

    def test_stretches_with_a_cross(self):
        # Just two pairs, far from one another, each one ahead of the other.
        table = table_by(300, 300, lambda one, other: (one, other) in ((17, 250), (251, 16)))
        self.assert_tells(stretches, table, "Cross")

    def test_ranks(self):
        numbers = [(thing * 7919) % 23 for thing in range(300)]
        table = table_by(300, 300, lambda one, other: numbers[one] < numbers[other])
        self.assert_tells(ranks, table, "Ranks")
        self.assert_tells(ranks, with_sign(table, 299, 299, "x"), "Self Mutual Beside")
        for row, column in ((0, 1), (299, 0), (150, 151), (298, 299)):
            self.assert_tells(ranks, other_sign(table, row, column), "Mutual Beside")

    def test_ranks_with_one_thing_ahead_of_one_other(self):
        self.assert_tells(ranks, table_by(300, 300, lambda one, other: (one, other) == (298, 299)), "Beside")

    def test_line(self):
        order = shuffled(300, 3)
        places = [order.index(thing) for thing in range(300)]
        table = table_by(300, 300, lambda one, other: places[one] < places[other])
        self.assert_tells(line, table, "Line")
        self.assertEqual(line(table).order, order)
        self.assert_tells(line, with_sign(table, 299, 299, "x"), "Self Mutual Neither Round")
        first, last = order[0], order[-1]
        self.assert_tells(line, with_sign(table, last, first, "x"), "Mutual Round")
        self.assert_tells(line, with_sign(table, first, last, "-"), "Neither")
        self.assert_tells(line, with_sign(with_sign(table, first, last, "-"), last, first, "x"), "Round")

    def test_a_large_round(self):
        table = table_by(301, 301, lambda one, other: 0 < (other - one) % 301 <= 150)
        self.assert_tells(line, table, "Round")
        self.assert_tells(ranks, table, "Beside")

    def test_larger_tables(self):
        later = ["-" * (row + 1) + "x" * (1000 - row - 1) for row in range(1000)]
        for telling, (good, bars) in TELLING.items():
            told = telling(later)
            self.assertEqual(looks.name_of(told), good)
            self.assertIs(told.shows(later), True)
            self.assertIs(told.shows(turned(later)), False)


def with_crossed_corner(table):
    """The same but for the four signs of the first two rows and the last two columns."""
    changed = with_sign(with_sign(table, 0, len(table[0]) - 1, "x"), 0, len(table[0]) - 2, "-")
    return with_sign(with_sign(changed, 1, len(table[0]) - 1, "-"), 1, len(table[0]) - 2, "x")


class NothingChangedOrKept(unittest.TestCase):
    def tables(self):
        return [
            [], ["-"], ["-xx", "--x", "---"], ["---", "x-x", "x--"], ["x-", "-x"], ["-x", "x-"], ["--", "--"],
            ["-x-", "--x", "x--"], ["-x-", "---", "---"], ["-x--", "----", "---x", "----"],
        ]

    def test_what_is_handed_in_stays_as_it_was(self):
        for table in self.tables():
            before = copy.deepcopy(table)
            for telling in TELLING:
                told = telling(table)
                self.assertEqual(table, before)
                told.shows(table)
                self.assertEqual(table, before)

    def test_what_is_told_is_new(self):
        for table in self.tables():
            for telling in TELLING:
                first, second = telling(table), telling(table)
                self.assertIsNot(first, second)
                lists = [field for field in looks.fields_of(first) + looks.fields_of(second) + [table]
                         if type(field) is list]
                for one, other in itertools.combinations(lists, 2):
                    self.assertIsNot(one, other)

    def test_changing_what_was_told_changes_nothing_that_is_told_next(self):
        for table in self.tables():
            for telling in TELLING:
                told, beside = telling(table), telling(table)
                expected = copy.deepcopy(looks.fields_of(told))
                for name in looks.FIELDS[looks.name_of(told)]:
                    field = getattr(told, name)
                    if type(field) is list:
                        field.insert(0, 99)
                    setattr(told, name, field if type(field) is list else 99)
                self.assertIs(told.shows(table), False)
                self.assertEqual(looks.fields_of(beside), expected)
                self.assertIs(beside.shows(table), True)
                self.assertEqual(looks.fields_of(telling(table)), expected)

    def test_changing_the_table_afterwards(self):
        for table in self.tables():
            for telling in TELLING:
                handed = list(table)
                told = telling(handed)
                expected = copy.deepcopy(looks.fields_of(told))
                handed.append("xxx")
                self.assertEqual(looks.fields_of(told), expected)
                self.assertIs(told.shows(table), True)

    def test_a_table_changed_is_told_of_as_it_stands(self):
        table = ["-x", "--"]
        self.assertEqual(looks.name_of(line(table)), "Line")
        table[1] = "x-"
        self.assertEqual(looks.name_of(line(table)), "Mutual")
        table[0] = "--"
        self.assertEqual(line(table).order, [1, 0])
        table.clear()
        self.assertEqual(line(table).order, [])


if __name__ == "__main__":
    unittest.main()
