"""The tests' own look at tables and answers, sign by sign; nothing of it comes from the package."""

import itertools


def every_table(rows, columns):
    for signs in itertools.product("x-", repeat=rows * columns):
        text = "".join(signs)
        yield [text[row * columns:(row + 1) * columns] for row in range(rows)]


def every_square_table(most):
    for things in range(most + 1):
        yield from every_table(things, things)


def columns_of(table):
    return len(table[0]) if table else 0


def has(table, row, column):
    return table[row][column] == "x"


def all_ahead(table, thing):
    return {one for one in range(len(table)) if has(table, one, thing)}


def plain_number(value):
    return type(value) is int


def plain_numbers(values, length):
    return type(values) is list and len(values) == length and all(plain_number(value) for value in values)


def counts(total, values):
    return all(plain_number(value) and 0 <= value < total for value in values)


def unlike_things(table, things):
    if not counts(len(table), things):
        return False
    return all(things[one] != things[other] for one in range(len(things)) for other in range(one))


def look_steps(table, rows, columns):
    if not plain_numbers(rows, len(table)) or not plain_numbers(columns, columns_of(table)):
        return False
    for row in range(len(rows)):
        for column in range(len(columns)):
            if has(table, row, column) != (rows[row] > columns[column]):
                return False
    return True


def look_cross(table, one, first, other, second):
    if not counts(len(table), [one, other]) or not counts(columns_of(table), [first, second]):
        return False
    mine = has(table, one, first) and has(table, other, second)
    return one != other and mine and not has(table, one, second) and not has(table, other, first)


def look_stretches(table, begins, ends, unlike):
    things = len(table)
    if not plain_numbers(begins, things) or not plain_numbers(ends, things):
        return False
    for one in range(things):
        if ends[one] < begins[one]:
            return False
        for other in range(things):
            if has(table, one, other) != (ends[one] < begins[other]):
                return False
    if type(unlike) is not list or not counts(things, unlike) or len(unlike) != len(set(begins)):
        return False
    aheads = [all_ahead(table, thing) for thing in unlike]
    return all(aheads[one] != aheads[other] for one in range(len(aheads)) for other in range(one))


def look_self(table, one):
    return counts(len(table), [one]) and has(table, one, one)


def look_ranks(table, ranks):
    if not plain_numbers(ranks, len(table)):
        return False
    for one in range(len(table)):
        for other in range(len(table)):
            if has(table, one, other) != (ranks[one] < ranks[other]):
                return False
    return True


def look_mutual(table, one, other):
    return unlike_things(table, [one, other]) and has(table, one, other) and has(table, other, one)


def look_beside(table, one, other, third):
    if not unlike_things(table, [one, other, third]):
        return False
    return has(table, one, other) and not has(table, one, third) and not has(table, third, other)


def look_line(table, order):
    if type(order) is not list or len(order) != len(table):
        return False
    if not all(order.count(thing) == 1 for thing in range(len(table))):
        return False
    for place, one in enumerate(order):
        for later, other in enumerate(order):
            if has(table, one, other) != (place < later):
                return False
    return True


def look_neither(table, one, other):
    return unlike_things(table, [one, other]) and not has(table, one, other) and not has(table, other, one)


def look_round(table, one, other, third):
    if not unlike_things(table, [one, other, third]):
        return False
    return has(table, one, other) and has(table, other, third) and has(table, third, one)


FIELDS = {
    "Steps": ("rows", "columns"),
    "Cross": ("one", "first", "other", "second"),
    "Stretches": ("begins", "ends", "unlike"),
    "Self": ("one",),
    "Ranks": ("ranks",),
    "Mutual": ("one", "other"),
    "Beside": ("one", "other", "third"),
    "Line": ("order",),
    "Neither": ("one", "other"),
    "Round": ("one", "other", "third"),
}

LOOKS = {
    "Steps": look_steps,
    "Cross": look_cross,
    "Stretches": look_stretches,
    "Self": look_self,
    "Ranks": look_ranks,
    "Mutual": look_mutual,
    "Beside": look_beside,
    "Line": look_line,
    "Neither": look_neither,
    "Round": look_round,
}


def name_of(answer):
    return type(answer).__name__


def fields_of(answer):
    return [getattr(answer, name) for name in FIELDS[name_of(answer)]]


def is_as_told(answer, table):
    fields = fields_of(answer)
    kinds = all(plain_number(field) or type(field) is list for field in fields)
    return kinds and LOOKS[name_of(answer)](table, *fields)


def is_barred(table, name):
    """Whether there is any answer of this name, one of those that tell a few counts, for the table."""
    rows, columns = range(len(table)), range(columns_of(table))
    places = {"one": rows, "other": rows, "third": rows, "first": columns, "second": columns}
    chosen = itertools.product(*[places[field] for field in FIELDS[name]])
    return any(LOOKS[name](table, *fields) for fields in chosen)
