"""What a table is, a table turned, and who is ahead of a thing."""

from wholeahead.errors import BadSquare, BadTable, BadThing


def is_row(row):
    return isinstance(row, str) and row.count("x") + row.count("-") == len(row)


def is_table(table):
    if not isinstance(table, list):
        return False
    if not all([is_row(row) for row in table]):
        return False
    return all([len(row) == len(table[0]) for row in table])


def width(table):
    # A table of no rows has no columns, and so it counts as square.
    return len(table[0]) if len(table) > 0 else 0


def is_number(value):
    # To Python True and False are whole numbers; here they are no numbers.
    return isinstance(value, int) and not isinstance(value, bool)


def is_row_count(table, value):
    return is_number(value) and 0 <= value < len(table)


def is_column_count(table, value):
    return is_number(value) and 0 <= value < width(table)


def has(table, row, column):
    return table[row][column] == "x"


def check_table(table):
    if not is_table(table):
        raise BadTable("not a list of texts of the signs x and -, all alike long")


def check_square(table):
    check_table(table)
    if len(table) != width(table):
        raise BadSquare("the table has not as many rows as its rows have signs")


def check_thing(table, thing):
    if not is_row_count(table, thing):
        raise BadThing("not the count of a thing of the table")


def column_signs(table, column):
    return "".join([row[column] for row in table])


def turned(table):
    check_table(table)
    return [column_signs(table, column) for column in range(width(table))]


def ahead_of(table, thing):
    check_square(table)
    check_thing(table, thing)
    return [one for one, row in enumerate(table) if row[thing] == "x"]
