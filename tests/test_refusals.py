"""Promise 1's refusals: wrong inputs of any kind, and which refusal comes first."""

import collections
import decimal
import fractions
import unittest

from wholeahead.errors import BadSquare, BadTable, BadThing
from wholeahead.tables import ahead_of, turned
from wholeahead.telling import line, ranks, steps, stretches


class Unfriendly:
    """Fails at whatever is asked of it."""

    def fail(self, *parts):
        raise RuntimeError("asked too much")

    __eq__ = __lt__ = __le__ = __gt__ = __ge__ = __bool__ = __len__ = __iter__ = fail
    __getitem__ = __index__ = __int__ = __str__ = __repr__ = __hash__ = fail


class Indexable:
    """Would do as an index, but is no whole number."""

    def __index__(self):
        return 0


def holding_itself():
    table = []
    table.append(table)
    return table


NO_LISTS = [
    None, True, False, 0, 1, -1, 1.0, 1j, float("nan"), "", "x", "-", "xx", b"x", bytearray(b"x"),
    (), ("x",), ("x-", "-x"), {}, {0: "x"}, {"x": "x"}, set(), {"x"}, frozenset(["x"]),
    range(0), range(1), iter(["x"]), (row for row in ["x"]), collections.UserList(["x"]),
    collections.deque(["x"]), object(), object, list, str, len, lambda: ["x"], ValueError("x"),
    Unfriendly(), Indexable(),
]

NO_TEXTS = [
    None, True, False, 0, 1, 1.0, b"", b"x", bytearray(b"x"), [], ["x"], (), ("x",), {}, {"x": "x"},
    set(), {"x"}, collections.UserString("x"), object(), str, lambda: "x", Unfriendly(),
]

WRONG_SIGNS = [
    "X", "o", "0", "1", " ", "_", "+", "=", "\n", "\t", "\r", "\0", "\u2013", "\u2212", "\u00d7",
    "\u0445", "x\u0301", "\ud800", "xy", "yx", "-y-", "x x", "x\n", "\nx", " -", "- ",
]

NOT_ALIKE_LONG = [
    ["x", "xx"], ["xx", "x"], ["", "x"], ["x", ""], ["--", "--", "-"], ["--", "-", "--"],
    ["-", "--", "--"], ["xx-", "x"], ["---", "--", "----"], ["x"] * 1000 + ["xx"],
]

NOT_SQUARE = [
    [""], ["", ""], ["x-"], ["x", "-"], ["xxx", "xxx"], ["xx", "xx", "xx"], ["----"], ["-"] * 4,
    ["-" * 999] * 1000, ["-" * 1000] * 999,
]

NO_THINGS = [
    None, True, False, 0.0, 1.0, 0j, float("nan"), float("inf"), decimal.Decimal(0),
    fractions.Fraction(0), "", "0", "x", b"0", [], [0], (), (0,), {}, {0: 0}, set(), {0}, range(1),
    slice(0, 1), object(), int, lambda: 0, Unfriendly(), Indexable(),
]


def bad_tables():
    found = list(NO_LISTS) + list(NOT_ALIKE_LONG) + [holding_itself()]
    for row in NO_TEXTS:
        found += [[row], [row, "x-"], ["x-", row], ["x--", row, "---"]]
    for row in WRONG_SIGNS:
        other = "x" * len(row)
        found += [[row], [row, other], [other, row], [other, row, other], [other] * 500 + [row]]
    found.append(["x" * 5000 + "o"])
    found.append(["o" + "x" * 5000])
    return found


class Refusals(unittest.TestCase):
    def assert_refused(self, refusal, attempt, *parts):
        try:
            attempt(*parts)
        except refusal as error:
            self.assertIs(type(error), refusal)
        else:
            self.fail("not refused")

    def assert_each_refused(self, refusal, calls):
        # Some of the values fail when they are shown, so a case is told by its place.
        for place, (attempt, *parts) in enumerate(calls):
            with self.subTest(place=place):
                self.assert_refused(refusal, attempt, *parts)


class BadTables(Refusals):
    def test_turned(self):
        self.assert_each_refused(BadTable, [(turned, table) for table in bad_tables()])

    def test_steps(self):
        self.assert_each_refused(BadTable, [(steps, table) for table in bad_tables()])

    def test_those_of_square_tables(self):
        # Many of these have not as many rows as signs either: that it is no table is told first.
        for telling in (stretches, ranks, line):
            self.assert_each_refused(BadTable, [(telling, table) for table in bad_tables()])

    def test_ahead_of(self):
        self.assert_each_refused(BadTable, [(ahead_of, table, 0) for table in bad_tables()])

    def test_ahead_of_with_a_wrong_thing_too(self):
        things = [None, True, -1, 2, 99, "0", Unfriendly()]
        calls = [(ahead_of, table, thing) for table in bad_tables() for thing in things]
        self.assert_each_refused(BadTable, calls)


class BadSquares(Refusals):
    def test_ahead_of(self):
        self.assert_each_refused(BadSquare, [(ahead_of, table, 0) for table in NOT_SQUARE])

    def test_ahead_of_with_a_wrong_thing_too(self):
        things = [None, True, False, -1, 2, 10000, "0", Unfriendly()]
        calls = [(ahead_of, table, thing) for table in NOT_SQUARE for thing in things]
        self.assert_each_refused(BadSquare, calls)

    def test_those_of_square_tables(self):
        for telling in (stretches, ranks, line):
            self.assert_each_refused(BadSquare, [(telling, table) for table in NOT_SQUARE])

    def test_tables_that_a_few_would_bar(self):
        # With a cross, or a thing ahead of itself, they are refused all the same.
        tables = [["x--", "-x-"], ["x-", "-x", "--"], ["-x-", "x--"], ["xx"]]
        for telling in (stretches, ranks, line):
            self.assert_each_refused(BadSquare, [(telling, table) for table in tables])

    def test_steps_takes_tables_that_are_not_square(self):
        for table in NOT_SQUARE:
            told = steps(table)
            self.assertEqual((len(told.rows), len(told.columns)), (len(table), len(table[0])))

    def test_turned_takes_tables_that_are_not_square(self):
        for table in NOT_SQUARE:
            self.assertEqual(len(turned(table)), len(table[0]))


class NothingLeftBehind(Refusals):
    def test_a_refusal_leaves_nothing_behind(self):
        table = ["-x", "-"]
        for telling in (steps, stretches, ranks, line):
            self.assert_refused(BadTable, telling, table)
            self.assertEqual(table, ["-x", "-"])
        table[1] = "--"
        for telling in (steps, stretches, ranks, line):
            self.assertIs(telling(table).shows(table), True)


class BadThings(Refusals):
    def test_no_whole_numbers(self):
        tables = [["xx", "xx"], ["x"], []]
        calls = [(ahead_of, table, thing) for table in tables for thing in NO_THINGS]
        self.assert_each_refused(BadThing, calls)

    def test_less_than_none(self):
        things = [-1, -2, -3, -10 ** 30]
        self.assert_each_refused(BadThing, [(ahead_of, ["xx", "xx"], thing) for thing in things])

    def test_as_many_as_there_are_rows_or_more(self):
        things = [2, 3, 10 ** 30]
        self.assert_each_refused(BadThing, [(ahead_of, ["xx", "xx"], thing) for thing in things])

    def test_a_table_of_no_rows_is_square_but_has_no_things(self):
        self.assert_each_refused(BadThing, [(ahead_of, [], thing) for thing in (-1, 0, 1)])

    def test_one_thing(self):
        self.assert_each_refused(BadThing, [(ahead_of, ["x"], thing) for thing in (-1, 1)])


if __name__ == "__main__":
    unittest.main()
