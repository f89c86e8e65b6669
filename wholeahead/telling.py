"""What is told of a table: steps, stretches, ranks or a line, or the few that bar it.

Each find_.. tells an answer or None. No answer counts as false, so they are strung together by "or".
"""

from wholeahead.answers import Beside, Cross, Line, Mutual, Neither, Ranks, Round, Self, Steps, Stretches
from wholeahead.tables import check_square, check_table, has, turned


def steps(table):
    check_table(table)
    return find_cross(table) or make_steps(table)


def stretches(table):
    check_square(table)
    return find_self(table) or find_cross(table) or make_stretches(table)


def ranks(table):
    check_square(table)
    return find_self(table) or find_mutual(table) or find_beside(table) or make_ranks(table)


def line(table):
    check_square(table)
    return find_self(table) or find_mutual(table) or find_neither(table) or find_round(table) or make_line(table)


def signs_count(texts):
    return [text.count("x") for text in texts]


def count_ahead(table):
    return signs_count(turned(table))


def place_had_alone(signs, others):
    for place, sign in enumerate(signs):
        if sign == "x" and others[place] == "-":
            return place
    return None


def greatest_lacking(signs, numbers):
    # Where all rows have a column, each of them has more than 0 columns.
    return max([number for sign, number in zip(signs, numbers) if sign == "-"], default=0)


def find_cross(table):
    counts = signs_count(table)
    order = sorted(range(len(table)), key=lambda row: counts[row])
    for one, other in zip(order, order[1:]):
        first = place_had_alone(table[one], table[other])
        if first is not None:
            # The other row has no fewer columns and lacks one of these, so it has one that this row lacks.
            return Cross(one, first, other, place_had_alone(table[other], table[one]))
    return None


def make_steps(table):
    # With no cross, a row that lacks a column has fewer columns than each row that has it.
    counts = signs_count(table)
    return Steps(counts, [greatest_lacking(signs, counts) for signs in turned(table)])


def make_stretches(table):
    # With no cross, things that have equally many ahead of them have the same ones ahead of them.
    begins = count_ahead(table)
    ends = [greatest_lacking(row, begins) for row in table]
    firsts = {}
    for thing, begin in enumerate(begins):
        firsts.setdefault(begin, thing)
    return Stretches(begins, ends, list(firsts.values()))


def find_self(table):
    for thing in range(len(table)):
        if has(table, thing, thing):
            return Self(thing)
    return None


def find_pair_both_ways(table, sign):
    for one, row in enumerate(table):
        for other in range(one):
            if row[other] == sign and table[other][one] == sign:
                return (other, one)
    return None


def find_mutual(table):
    pair = find_pair_both_ways(table, "x")
    return None if pair is None else Mutual(pair[0], pair[1])


def find_neither(table):
    pair = find_pair_both_ways(table, "-")
    return None if pair is None else Neither(pair[0], pair[1])


def find_beside(table):
    columns = turned(table)
    counts = signs_count(columns)
    for one, row in enumerate(table):
        for other, sign in enumerate(row):
            if sign == "x" and counts[one] >= counts[other]:
                return beside_of(columns, one, other)
            if sign == "-" and counts[one] < counts[other]:
                return beside_of(columns, other, one)
    return None


def beside_of(columns, second, third):
    # The second thing has no fewer ahead of it than the third, and not the same ones, so one of its own is there.
    return Beside(place_had_alone(columns[second], columns[third]), second, third)


def make_ranks(table):
    return Ranks(count_ahead(table))


def find_round(table):
    # Where of any two things just one is ahead, they stand in a line just where all of these counts differ.
    columns = turned(table)
    seen = {}
    for thing, count in enumerate(signs_count(columns)):
        if count in seen:
            return round_of(table, columns, seen[count], thing)
        seen[count] = thing
    return None


def round_of(table, columns, thing, rival):
    one = thing if has(table, thing, rival) else rival
    other = rival if one == thing else thing
    # Equally many are ahead of both, and one is ahead of the other, so something else is ahead of that one alone.
    return Round(one, other, place_had_alone(columns[one], columns[other]))


def make_line(table):
    counts = count_ahead(table)
    return Line(sorted(range(len(table)), key=lambda thing: counts[thing]))
