"""The classes of answers: their fields, and shows, for answers made by hand."""

import copy
import inspect
import itertools
import unittest

import looks
from wholeahead import answers
from wholeahead.answers import (
    Answer, Beside, Cross, Line, Mutual, Neither, Ranks, Round, Self, Steps, Stretches,
)

CLASSES = (Steps, Cross, Stretches, Self, Ranks, Mutual, Beside, Line, Neither, Round)
HUGE = 10 ** 30

# For each class tables and fields with which it shows.
TRUE = [
    (["xx-", "x--"], Steps([2, 1], [0, 1, 2])),
    (["xx-", "x--"], Steps([5, 3], [-7, 4, 5])),
    (["xx-", "x--"], Steps([-1, -2], [-3, -2, -1])),
    (["xx-", "x--"], Steps([HUGE, 0], [-HUGE, HUGE - 1, HUGE])),
    (["xx-", "x--", "x--"], Steps([2, 1, 1], [0, 1, 2])),
    (["xx", "xx"], Steps([1, 9], [0, 0])),
    (["--", "--"], Steps([0, 0], [0, 5])),
    (["x"], Steps([1], [0])),
    (["-"], Steps([0], [0])),
    (["", ""], Steps([3, -3], [])),
    ([], Steps([], [])),
    (["x-", "-x"], Cross(0, 0, 1, 1)),
    (["x-", "-x"], Cross(1, 1, 0, 0)),
    (["---", "xx-", "x-x"], Cross(1, 1, 2, 2)),
    (["---", "xx-", "x-x"], Cross(2, 2, 1, 1)),
    (["---x-", "x----"], Cross(0, 3, 1, 0)),
    (["-x-", "--x", "---"], Cross(0, 1, 1, 2)),
    (["-x", "x-"], Cross(0, 1, 1, 0)),
    (["-xx", "--x", "---"], Stretches([0, 1, 2], [0, 1, 2], [0, 1, 2])),
    (["-xx", "--x", "---"], Stretches([-9, 1, 20], [0, 19, HUGE], [2, 0, 1])),
    (["--x", "---", "---"], Stretches([0, 0, 1], [0, 1, 1], [0, 2])),
    (["--x", "---", "---"], Stretches([0, 0, 1], [0, 1, 1], [2, 1])),
    (["--x", "---", "---"], Stretches([-3, -3, 1], [0, 8, 2], [1, 2])),
    (["--", "--"], Stretches([4, 4], [4, 7], [0])),
    (["--", "--"], Stretches([4, 4], [4, 7], [1])),
    (["-"], Stretches([5], [5], [0])),
    ([], Stretches([], [], [])),
    (["x"], Self(0)),
    (["--", "-x"], Self(1)),
    (["xx", "xx"], Self(0)),
    (["-xx", "---", "---"], Ranks([0, 1, 1])),
    (["-xx", "---", "---"], Ranks([-5, HUGE, HUGE])),
    (["--", "--"], Ranks([7, 7])),
    (["-"], Ranks([-1])),
    ([], Ranks([])),
    (["-x", "x-"], Mutual(0, 1)),
    (["-x", "x-"], Mutual(1, 0)),
    (["xx-", "xx-", "---"], Mutual(1, 0)),
    (["-x-", "---", "---"], Beside(0, 1, 2)),
    (["-x-", "--x", "---"], Beside(0, 1, 2)),
    (["-x-", "--x", "x--"], Beside(0, 1, 2)),
    (["-x-", "--x", "x--"], Beside(2, 0, 1)),
    (["xx-", "xxx", "x-x"], Beside(0, 1, 2)),
    (["---", "x-x", "x--"], Line([1, 2, 0])),
    (["-x", "--"], Line([0, 1])),
    (["-"], Line([0])),
    ([], Line([])),
    (["--", "--"], Neither(0, 1)),
    (["--", "--"], Neither(1, 0)),
    (["x-x", "-x-", "---"], Neither(0, 1)),
    (["-x-", "--x", "x--"], Round(0, 1, 2)),
    (["-x-", "--x", "x--"], Round(1, 2, 0)),
    (["-x-", "--x", "x--"], Round(2, 0, 1)),
    (["xxx", "xxx", "xxx"], Round(2, 1, 0)),
]

# For each class tables and fields with which it doesn't show.
FALSE = [
    # Steps: numbers one more or less, lists too short, too long, empty, or exchanged.
    (["xx-", "x--"], Steps([1, 1], [0, 1, 2])),
    (["xx-", "x--"], Steps([3, 1], [0, 1, 2])),
    (["xx-", "x--"], Steps([2, 0], [0, 1, 2])),
    (["xx-", "x--"], Steps([2, 2], [0, 1, 2])),
    (["xx-", "x--"], Steps([2, 1], [1, 1, 2])),
    (["xx-", "x--"], Steps([2, 1], [0, 1, 1])),
    (["xx-", "x--"], Steps([2, 1], [0, 2, 1])),
    (["xx-", "x--"], Steps([1, 2], [0, 1, 2])),
    (["xx-", "x--"], Steps([2], [0, 1, 2])),
    (["xx-", "x--"], Steps([2, 1, 0], [0, 1, 2])),
    (["xx-", "x--"], Steps([2, 1], [0, 1])),
    (["xx-", "x--"], Steps([2, 1], [0, 1, 2, 2])),
    (["xx-", "x--"], Steps([], [])),
    (["xx-", "x--"], Steps([2, 1], [])),
    (["xx-", "x--"], Steps([], [0, 1, 2])),
    (["xx-", "x--"], Steps([0, 1, 2], [2, 1])),
    (["x-", "-x"], Steps([1, 1], [0, 0])),
    (["x"], Steps([0], [0])),
    (["-"], Steps([1], [0])),
    (["", ""], Steps([], [])),
    (["", ""], Steps([0], [])),
    (["", ""], Steps([0, 0, 0], [])),
    (["", ""], Steps([0, 0], [0])),
    ([], Steps([0], [])),
    ([], Steps([], [0])),
    # Cross: each of its four signs wrong; counts out of range.
    (["--", "-x"], Cross(0, 0, 1, 1)),
    (["x-", "--"], Cross(0, 0, 1, 1)),
    (["xx", "-x"], Cross(0, 0, 1, 1)),
    (["x-", "xx"], Cross(0, 0, 1, 1)),
    (["x-", "-x"], Cross(0, 1, 1, 0)),
    (["x-", "-x"], Cross(0, 0, 0, 0)),
    (["x-", "-x"], Cross(0, 0, 0, 1)),
    (["x-", "-x"], Cross(0, 0, 1, 0)),
    (["x-", "-x"], Cross(-2, 0, 1, 1)),
    (["x-", "-x"], Cross(0, -2, 1, 1)),
    (["x-", "-x"], Cross(0, 0, -1, 1)),
    (["x-", "-x"], Cross(0, 0, 1, -1)),
    (["x-", "-x"], Cross(2, 0, 1, 1)),
    (["x-", "-x"], Cross(0, 2, 1, 1)),
    (["x-", "-x"], Cross(0, 0, 2, 1)),
    (["x-", "-x"], Cross(0, 0, 1, 2)),
    (["x-", "-x"], Cross(HUGE, -HUGE, HUGE, -HUGE)),
    (["x--", "-x-"], Cross(0, 0, 2, 1)),
    (["x-", "-x", "--"], Cross(0, 0, 1, 2)),
    (["", ""], Cross(0, 0, 1, 1)),
    ([], Cross(0, 0, 0, 0)),
    # Stretches: numbers one more or less, an end less than its begin, lists of a wrong length, unlike wrong.
    (["--x", "---", "---"], Stretches([0, 0, 1], [1, 1, 1], [0, 2])),
    (["--x", "---", "---"], Stretches([0, 0, 1], [0, 0, 1], [0, 2])),
    (["--x", "---", "---"], Stretches([0, 0, 0], [0, 1, 1], [0])),
    (["--x", "---", "---"], Stretches([0, 0, 2], [0, 1, 2], [0, 2])),
    (["--x", "---", "---"], Stretches([1, 0, 1], [0, 1, 1], [0, 2])),
    (["--x", "---", "---"], Stretches([0, 0, 1], [0, 1, 0], [0, 2])),
    (["--x", "---", "---"], Stretches([0, 2, 1], [0, 1, 1], [0, 2])),
    (["--", "--"], Stretches([3, 3], [3, 2], [0])),
    (["-"], Stretches([1], [0], [0])),
    (["--x", "---", "---"], Stretches([0, 0], [0, 1, 1], [0])),
    (["--x", "---", "---"], Stretches([0, 0, 1], [0, 1], [0, 2])),
    (["--x", "---", "---"], Stretches([0, 0, 1, 1], [0, 1, 1], [0, 2])),
    (["--x", "---", "---"], Stretches([0, 0, 1], [0, 1, 1, 1], [0, 2])),
    (["--x", "---", "---"], Stretches([0, 0, 1, 1], [0, 1, 1, 1], [0, 2])),
    (["--x", "---", "---"], Stretches([], [], [])),
    (["--x", "---", "---"], Stretches([0, 0, 1], [0, 1, 1], [])),
    (["--x", "---", "---"], Stretches([0, 0, 1], [0, 1, 1], [0])),
    (["--x", "---", "---"], Stretches([0, 0, 1], [0, 1, 1], [2])),
    (["--x", "---", "---"], Stretches([0, 0, 1], [0, 1, 1], [0, 1])),
    (["--x", "---", "---"], Stretches([0, 0, 1], [0, 1, 1], [0, 0])),
    (["--x", "---", "---"], Stretches([0, 0, 1], [0, 1, 1], [2, 2])),
    (["--x", "---", "---"], Stretches([0, 0, 1], [0, 1, 1], [0, 1, 2])),
    (["--x", "---", "---"], Stretches([0, 0, 1], [0, 1, 1], [0, 2, 2])),
    (["--x", "---", "---"], Stretches([0, 0, 1], [0, 1, 1], [0, -1])),
    (["--x", "---", "---"], Stretches([0, 0, 1], [0, 1, 1], [-3, 2])),
    (["--x", "---", "---"], Stretches([0, 0, 1], [0, 1, 1], [0, 3])),
    (["--x", "---", "---"], Stretches([0, 0, 1], [0, 1, 1], [3, 2])),
    (["--x", "---", "---"], Stretches([0, 0, 1], [0, 1, 1], [0, HUGE])),
    # One begin more than need be, so no things will do.
    (["--x", "---", "---"], Stretches([0, -1, 1], [0, 1, 1], [0, 2])),
    (["--x", "---", "---"], Stretches([0, -1, 1], [0, 1, 1], [0, 1, 2])),
    (["--", "--"], Stretches([0, 1], [1, 1], [0, 1])),
    (["--", "--"], Stretches([0, 1], [1, 1], [0])),
    (["x"], Stretches([0], [0], [0])),
    ([], Stretches([], [], [0])),
    ([], Stretches([0], [0], [])),
    ([], Stretches([0], [], [])),
    ([], Stretches([], [0], [])),
    # Self.
    (["-"], Self(0)),
    (["x-", "--"], Self(1)),
    (["-x", "--"], Self(0)),
    (["-x", "--"], Self(1)),
    (["xx", "xx"], Self(-1)),
    (["xx", "xx"], Self(2)),
    (["xx", "xx"], Self(HUGE)),
    ([], Self(0)),
    ([], Self(-1)),
    # Ranks.
    (["-xx", "---", "---"], Ranks([0, 1, 2])),
    (["-xx", "---", "---"], Ranks([0, 1, 0])),
    (["-xx", "---", "---"], Ranks([1, 1, 1])),
    (["-xx", "---", "---"], Ranks([2, 1, 1])),
    (["-xx", "---", "---"], Ranks([0, 1])),
    (["-xx", "---", "---"], Ranks([0, 1, 1, 1])),
    (["-xx", "---", "---"], Ranks([])),
    (["x"], Ranks([0])),
    (["-x", "x-"], Ranks([0, 1])),
    ([], Ranks([0])),
    # Mutual, and things alike.
    (["-x", "--"], Mutual(0, 1)),
    (["--", "x-"], Mutual(0, 1)),
    (["--", "--"], Mutual(0, 1)),
    (["xx", "xx"], Mutual(0, 0)),
    (["xx", "xx"], Mutual(1, 1)),
    (["xx", "xx"], Mutual(0, -1)),
    (["xx", "xx"], Mutual(-2, 1)),
    (["xx", "xx"], Mutual(0, 2)),
    (["xx", "xx"], Mutual(2, 0)),
    (["x"], Mutual(0, 0)),
    ([], Mutual(0, 1)),
    # Beside: each of its three signs wrong, things alike, exchanged, out of range.
    (["---", "---", "---"], Beside(0, 1, 2)),
    (["-xx", "---", "---"], Beside(0, 1, 2)),
    (["-x-", "---", "-x-"], Beside(0, 1, 2)),
    (["-x-", "---", "---"], Beside(1, 0, 2)),
    (["-x-", "---", "---"], Beside(0, 2, 1)),
    (["-x-", "---", "---"], Beside(2, 1, 0)),
    (["-x", "--"], Beside(0, 1, 0)),
    (["-x", "--"], Beside(0, 1, 1)),
    (["x-", "--"], Beside(0, 0, 1)),
    (["-x-", "---", "---"], Beside(0, 1, -1)),
    (["-x-", "---", "---"], Beside(-3, 1, 2)),
    (["-x-", "---", "---"], Beside(0, -2, 2)),
    (["-x-", "---", "---"], Beside(0, 1, 3)),
    (["-x-", "---", "---"], Beside(3, 1, 2)),
    (["-x-", "---", "---"], Beside(0, 3, 2)),
    ([], Beside(0, 1, 2)),
    # Line: things exchanged, alike, missing, too many, out of range.
    (["---", "x-x", "x--"], Line([1, 0, 2])),
    (["---", "x-x", "x--"], Line([2, 1, 0])),
    (["---", "x-x", "x--"], Line([0, 2, 1])),
    (["---", "x-x", "x--"], Line([1, 2])),
    (["---", "x-x", "x--"], Line([1, 2, 0, 0])),
    (["---", "x-x", "x--"], Line([1, 2, 2])),
    (["---", "x-x", "x--"], Line([1, 1, 0])),
    (["---", "x-x", "x--"], Line([1, 2, 3])),
    (["---", "x-x", "x--"], Line([1, 2, -3])),
    (["---", "x-x", "x--"], Line([1, -1, 0])),
    (["---", "x-x", "x--"], Line([1, 2, HUGE])),
    (["---", "x-x", "x--"], Line([])),
    (["x"], Line([0])),
    (["-x", "x-"], Line([0, 1])),
    (["--", "--"], Line([0, 1])),
    (["-x", "-x"], Line([0, 1])),
    ([], Line([0])),
    # Neither.
    (["-x", "--"], Neither(0, 1)),
    (["-x", "--"], Neither(1, 0)),
    (["-x", "x-"], Neither(0, 1)),
    (["--", "--"], Neither(0, 0)),
    (["--", "--"], Neither(1, 1)),
    (["--", "--"], Neither(0, -1)),
    (["--", "--"], Neither(-2, 1)),
    (["--", "--"], Neither(0, 2)),
    (["--", "--"], Neither(2, 0)),
    (["-"], Neither(0, 0)),
    ([], Neither(0, 1)),
    # Round: each of its three signs wrong, the other way round, things alike, out of range.
    (["---", "--x", "x--"], Round(0, 1, 2)),
    (["-x-", "---", "x--"], Round(0, 1, 2)),
    (["-x-", "--x", "---"], Round(0, 1, 2)),
    (["-x-", "--x", "x--"], Round(0, 2, 1)),
    (["-x-", "--x", "x--"], Round(1, 0, 2)),
    (["xxx", "xxx", "xxx"], Round(0, 0, 0)),
    (["xxx", "xxx", "xxx"], Round(0, 0, 1)),
    (["xxx", "xxx", "xxx"], Round(0, 1, 0)),
    (["xxx", "xxx", "xxx"], Round(1, 0, 0)),
    (["xxx", "xxx", "xxx"], Round(0, 1, -1)),
    (["xxx", "xxx", "xxx"], Round(-3, 1, 2)),
    (["xxx", "xxx", "xxx"], Round(0, -2, 2)),
    (["xxx", "xxx", "xxx"], Round(0, 1, 3)),
    (["xxx", "xxx", "xxx"], Round(3, 1, 2)),
    (["xxx", "xxx", "xxx"], Round(0, 3, 2)),
    (["x"], Round(0, 0, 0)),
    ([], Round(0, 1, 2)),
]


def named(table, answer):
    return f"{looks.name_of(answer)} {looks.fields_of(answer)} of {table}"


class TheClasses(unittest.TestCase):
    def test_each_stands_straight_under_answer(self):
        self.assertEqual(Answer.__bases__, (object,))
        for kind in CLASSES:
            self.assertEqual(kind.__bases__, (Answer,))
            self.assertIs(getattr(answers, kind.__name__), kind)

    def test_each_has_its_fields_as_they_are_called(self):
        for kind in CLASSES:
            names = list(inspect.signature(kind).parameters)
            self.assertEqual(tuple(names), looks.FIELDS[kind.__name__])
            self.assertEqual(list(inspect.signature(kind.shows).parameters)[1:], ["table"])

    def test_each_field_is_what_it_was_made_of(self):
        for kind in CLASSES:
            names = looks.FIELDS[kind.__name__]
            lists = kind in (Steps, Stretches, Ranks, Line)
            values = [[place, -3, HUGE] if lists else 5 - 3 * place for place in range(len(names))]
            for made in (kind(*values), kind(**dict(zip(names, values)))):
                self.assertEqual([getattr(made, name) for name in names], values)

    def test_fields_of_any_length(self):
        made = Stretches([], [1, 2, 3, 4], [-1] * 1000)
        self.assertEqual((made.begins, made.ends, made.unlike), ([], [1, 2, 3, 4], [-1] * 1000))


class Shows(unittest.TestCase):
    def test_answers_that_show(self):
        for table, answer in TRUE:
            self.assertTrue(looks.is_as_told(answer, table), named(table, answer))
            self.assertIs(answer.shows(table), True, named(table, answer))

    def test_answers_that_do_not_show(self):
        for table, answer in FALSE:
            self.assertFalse(looks.is_as_told(answer, table), named(table, answer))
            self.assertIs(answer.shows(table), False, named(table, answer))

    def test_each_class_is_there_both_ways(self):
        for kind in CLASSES:
            self.assertIn(kind, [type(answer) for table, answer in TRUE])
            self.assertIn(kind, [type(answer) for table, answer in FALSE])

    def test_the_table_is_handed_in_by_its_name(self):
        for table, answer in TRUE:
            self.assertIs(answer.shows(table=table), True)

    def test_true_and_false_are_no_numbers(self):
        # The table asks for 1 and 0 in these places.
        for table, answer in (
            (["x"], Steps([True], [0])), (["x"], Steps([1], [False])), (["x-", "-x"], Cross(False, 0, 1, 1)),
            (["x-", "-x"], Cross(0, 0, 1, True)), (["-x", "--"], Stretches([0, True], [0, 1], [0, 1])),
            (["-x", "--"], Stretches([0, 1], [False, 1], [0, 1])), (["-x", "--"], Stretches([0, 1], [0, 1], [0, True])),
            (["x"], Self(False)), (["-x", "--"], Ranks([False, True])), (["-x", "x-"], Mutual(False, True)),
            (["-x-", "---", "---"], Beside(False, True, 2)), (["-x", "--"], Line([False, True])),
            (["--", "--"], Neither(False, True)), (["-x-", "--x", "x--"], Round(False, True, 2)),
        ):
            self.assertIs(answer.shows(table), False, named(table, answer))


class EveryFewFields(unittest.TestCase):
    """Every choice of small fields, also of those that are out of range, with every small table."""

    def assert_alike(self, kind, tables, choices):
        look = looks.LOOKS[kind.__name__]
        choices = [list(fields) for fields in choices]
        shown = 0
        for table in tables:
            for fields in choices:
                told = kind(*fields).shows(table)
                shown += told
                if told is not look(table, *fields):
                    self.fail(f"{kind.__name__} {fields} of {table}")
        self.assertGreater(shown, 0)

    def test_steps(self):
        for rows, columns in ((0, 0), (1, 0), (2, 0), (1, 1), (1, 2), (2, 1), (2, 2)):
            tables = list(looks.every_table(rows, columns))
            self.assert_alike(Steps, tables, itertools.product(lists(3, -1, 2), repeat=2))

    def test_cross(self):
        for rows, columns in ((2, 2), (2, 3), (3, 2)):
            tables = list(looks.every_table(rows, columns))
            self.assert_alike(Cross, tables, itertools.product(range(-3, 4), repeat=4))

    def test_stretches(self):
        tables = list(looks.every_square_table(2))
        self.assert_alike(Stretches, tables, itertools.product(lists(2, -1, 1), lists(2, -1, 1), lists(3, -1, 2)))

    def test_stretches_of_three_things(self):
        tables = list(looks.every_table(3, 3))[::3] + [["-xx", "--x", "---"]]
        numbers = [list(some) for some in itertools.product(range(3), repeat=3)]
        self.assert_alike(Stretches, tables, itertools.product(numbers, numbers, [[0], [0, 2], [2, 1, 0]]))

    def test_self(self):
        tables = list(looks.every_square_table(3))
        self.assert_alike(Self, tables, [(one,) for one in range(-4, 5)])

    def test_ranks(self):
        tables = list(looks.every_square_table(3))
        self.assert_alike(Ranks, tables, [(numbers,) for numbers in lists(4, -1, 2)])

    def test_two_things(self):
        tables = list(looks.every_square_table(3))
        for kind in (Mutual, Neither):
            self.assert_alike(kind, tables, itertools.product(range(-4, 5), repeat=2))

    def test_three_things(self):
        tables = list(looks.every_square_table(3))
        for kind in (Beside, Round):
            self.assert_alike(kind, tables, itertools.product(range(-3, 4), repeat=3))

    def test_line(self):
        tables = list(looks.every_square_table(3))
        self.assert_alike(Line, tables, [(order,) for order in lists(4, -1, 3)])


def lists(longest, least, greatest):
    numbers = range(least, greatest + 1)
    return [list(some) for length in range(longest + 1) for some in itertools.product(numbers, repeat=length)]


class AsTheyStandThen(unittest.TestCase):
    def test_numbers_set_anew(self):
        for table, kind, good, bad in (
            (["x-", "-x"], Cross, (0, 0, 1, 1), (1, 1, 0, 0)), (["x-", "--"], Self, (0,), (1,)),
            (["-x-", "x--", "---"], Mutual, (0, 1), (2, 2)), (["-x-", "---", "---"], Beside, (0, 1, 2), (1, 0, 1)),
            (["--x", "--x", "---"], Neither, (0, 1), (2, 2)), (["-x-", "--x", "x--"], Round, (0, 1, 2), (2, 2, 0)),
        ):
            for name, value, other in zip(looks.FIELDS[kind.__name__], good, bad):
                answer = kind(*good)
                self.assertIs(answer.shows(table), True)
                setattr(answer, name, other)
                self.assertIs(answer.shows(table), False, (kind, name))
                setattr(answer, name, value)
                self.assertIs(answer.shows(table), True)

    def test_lists_changed_and_set_anew(self):
        for table, answer in (
            (["xx-", "x--"], Steps([2, 1], [0, 1, 2])), (["-xx", "---", "---"], Ranks([0, 1, 1])),
            (["-x", "--"], Stretches([0, 1], [0, 1], [0, 1])), (["---", "x-x", "x--"], Line([1, 2, 0])),
        ):
            for name in looks.FIELDS[looks.name_of(answer)]:
                field = getattr(answer, name)
                field.append(0)
                self.assertIs(answer.shows(table), False)
                field.pop()
                self.assertIs(answer.shows(table), True)
                field[0] += 5
                self.assertIs(answer.shows(table), False)
                field[0] -= 5
                self.assertIs(answer.shows(table), True)
                setattr(answer, name, [])
                self.assertIs(answer.shows(table), False)
                setattr(answer, name, field)
                self.assertIs(answer.shows(table), True)

    def test_made_wrong_and_set_right(self):
        answer = Line([])
        self.assertIs(answer.shows(["-x", "--"]), False)
        answer.order.extend([0, 1])
        self.assertIs(answer.shows(["-x", "--"]), True)

    def test_one_answer_with_one_table_after_another(self):
        answer = Ranks([0, 1])
        told = [answer.shows(table) for table in (["-x", "--"], ["--", "x-"], [], ["-x", "--"])]
        self.assertEqual(told, [True, False, False, True])


class ListsAreCopied(unittest.TestCase):
    def made(self):
        for table, answer in TRUE:
            if any(type(field) is list for field in looks.fields_of(answer)):
                yield table, type(answer), looks.fields_of(answer)

    def test_changing_what_an_answer_was_made_of(self):
        for table, kind, fields in self.made():
            handed = copy.deepcopy(fields)
            answer = kind(*handed)
            for field in handed:
                field.append(77)
            self.assertEqual(looks.fields_of(answer), fields)
            self.assertIs(answer.shows(table), True)

    def test_changing_a_field_changes_no_other_answer_and_nothing_handed_in(self):
        for table, kind, fields in self.made():
            handed = copy.deepcopy(fields)
            answer, other = kind(*handed), kind(*handed)
            for field in looks.fields_of(answer):
                field.append(77)
            self.assertEqual(handed, fields)
            self.assertEqual(looks.fields_of(other), fields)

    def test_one_list_handed_in_twice(self):
        numbers = [0, 0]
        answer = Stretches(numbers, numbers, numbers)
        self.assertIsNot(answer.begins, answer.ends)
        self.assertIsNot(answer.ends, answer.unlike)
        answer.begins.append(1)
        self.assertEqual((answer.ends, answer.unlike, numbers), ([0, 0], [0, 0], [0, 0]))
        steps = Steps(numbers, numbers)
        self.assertIsNot(steps.rows, steps.columns)

    def test_shows_changes_neither_the_fields_nor_the_table(self):
        for table, answer in TRUE + FALSE:
            before = copy.deepcopy((table, looks.fields_of(answer)))
            answer.shows(table)
            self.assertEqual((table, looks.fields_of(answer)), before)


if __name__ == "__main__":
    unittest.main()
