"""The answers that are told of tables; each can be held against a table."""

from wholeahead.tables import has, is_column_count, is_number, is_row_count, turned, width


def are_numbers(values, length):
    return len(values) == length and all([is_number(value) for value in values])


def are_unlike_things(table, things):
    if not all([is_row_count(table, thing) for thing in things]):
        return False
    return len(set(things)) == len(things)


def signs_where_less(number, others):
    return "".join(["x" if number < other else "-" for other in others])


def has_where_less(table, rows, columns):
    return all([row == signs_where_less(number, columns) for row, number in zip(table, rows)])


def opposites(numbers):
    return [-number for number in numbers]


def places_in(order):
    places = [0] * len(order)
    for place, thing in enumerate(order):
        places[thing] = place
    return places


class Answer:
    pass


class Steps(Answer):
    def __init__(self, rows, columns):
        self.rows = list(rows)
        self.columns = list(columns)

    def shows(self, table):
        if not are_numbers(self.rows, len(table)) or not are_numbers(self.columns, width(table)):
            return False
        # One number is greater than another just where its opposite is less.
        return has_where_less(table, opposites(self.rows), opposites(self.columns))


class Cross(Answer):
    def __init__(self, one, first, other, second):
        self.one = one
        self.first = first
        self.other = other
        self.second = second

    def shows(self, table):
        if not is_row_count(table, self.one) or not is_row_count(table, self.other):
            return False
        if not is_column_count(table, self.first) or not is_column_count(table, self.second):
            return False
        if not has(table, self.one, self.first) or not has(table, self.other, self.second):
            return False
        return not has(table, self.one, self.second) and not has(table, self.other, self.first)


class Stretches(Answer):
    def __init__(self, begins, ends, unlike):
        self.begins = list(begins)
        self.ends = list(ends)
        self.unlike = list(unlike)

    def shows(self, table):
        if not are_numbers(self.begins, len(table)) or not are_numbers(self.ends, len(table)):
            return False
        if any([end < begin for begin, end in zip(self.begins, self.ends)]):
            return False
        return has_where_less(table, self.ends, self.begins) and self.shows_unlike(table)

    def shows_unlike(self, table):
        if len(self.unlike) != len(set(self.begins)) or not are_unlike_things(table, self.unlike):
            return False
        # A thing's column tells all that are ahead of it.
        columns = turned(table)
        return len(set([columns[thing] for thing in self.unlike])) == len(self.unlike)


class Self(Answer):
    def __init__(self, one):
        self.one = one

    def shows(self, table):
        return is_row_count(table, self.one) and has(table, self.one, self.one)


class Ranks(Answer):
    def __init__(self, ranks):
        self.ranks = list(ranks)

    def shows(self, table):
        return are_numbers(self.ranks, len(table)) and has_where_less(table, self.ranks, self.ranks)


class Mutual(Answer):
    def __init__(self, one, other):
        self.one = one
        self.other = other

    def shows(self, table):
        if not are_unlike_things(table, [self.one, self.other]):
            return False
        return has(table, self.one, self.other) and has(table, self.other, self.one)


class Beside(Answer):
    def __init__(self, one, other, third):
        self.one = one
        self.other = other
        self.third = third

    def shows(self, table):
        if not are_unlike_things(table, [self.one, self.other, self.third]):
            return False
        if not has(table, self.one, self.other):
            return False
        return not has(table, self.one, self.third) and not has(table, self.third, self.other)


class Line(Answer):
    def __init__(self, order):
        self.order = list(order)

    def shows(self, table):
        if len(self.order) != len(table) or not are_unlike_things(table, self.order):
            return False
        places = places_in(self.order)
        return has_where_less(table, places, places)


class Neither(Answer):
    def __init__(self, one, other):
        self.one = one
        self.other = other

    def shows(self, table):
        if not are_unlike_things(table, [self.one, self.other]):
            return False
        return not has(table, self.one, self.other) and not has(table, self.other, self.one)


class Round(Answer):
    def __init__(self, one, other, third):
        self.one = one
        self.other = other
        self.third = third

    def shows(self, table):
        if not are_unlike_things(table, [self.one, self.other, self.third]):
            return False
        if not has(table, self.one, self.other) or not has(table, self.other, self.third):
            return False
        return has(table, self.third, self.one)
