"""Strips of any length, by a pattern of columns that is repeated."""

from spinfloor.errors import BadStrip
from spinfloor.powers import joined_row, table_power, tables_joined
from spinfloor.roofs import paid_alike, paid_unlike
from spinfloor.tables import counted_together

MOST_IN_PATTERN = 6
MOST_ROWS = 3


def refuse_pattern(pattern):
    if len(pattern) < 1 or len(pattern) > MOST_IN_PATTERN:
        raise BadStrip("a pattern has one to six columns")
    rows = rows_of(pattern)
    if rows < 1 or rows > MOST_ROWS:
        raise BadStrip("a column has one to three rows")
    for across, along in pattern:
        if len(along) != rows:
            raise BadStrip("the columns have unlike numbers of rows")
        if len(across) != rows - 1:
            raise BadStrip("a column hasn't just one strength less across than along")


def refuse_columns(columns):
    if columns < 1 or columns > 10 ** 18:
        raise BadStrip("a strip has 1 to 10 ** 18 columns")


def refuse_modulus(modulus):
    if modulus < 2 or modulus > 10 ** 9:
        raise BadStrip("a modulus is from 2 to 10 ** 9")


def rows_of(pattern):
    return len(pattern[0][1])


def price_between(signed, differ):
    return paid_unlike(signed) if differ % 2 == 1 else paid_alike(signed)


# The bits of differ, by the rows, tell which ties have unlike ends.
def price_of_all(strengths, differ):
    return sum([price_between(signed, differ >> row) for row, signed in enumerate(strengths)])


def price_across(column, signs):
    return price_of_all(column[0], signs ^ (signs >> 1))


def price_along(column, signs, then):
    return price_of_all(column[1], signs ^ then)


# From the signs of a column to those of the next one.
def column_table(column):
    every = list(range(1 << len(column[1])))
    table = []
    for signs in every:
        across = price_across(column, signs)
        table.append([(across + price_along(column, signs, then), 1) for then in every])
    return table


def step_table(pattern):
    refuse_pattern(pattern)
    table = column_table(pattern[0])
    for column in pattern[1:]:
        # The modulus changes nothing: five columns between have at most 8 ** 5 ways.
        table = tables_joined(table, column_table(column), 10 ** 9)
    return table


def strip_least(pattern, columns, modulus):
    refuse_pattern(pattern)
    refuse_columns(columns)
    refuse_modulus(modulus)
    repeats = (columns - 1) // len(pattern)
    last = (columns - 1) % len(pattern)
    row = [(0, 1) for signs in range(1 << rows_of(pattern))]
    if repeats > 0:
        row = joined_row(row, table_power(step_table(pattern), repeats, modulus), modulus)
    for column in pattern[:last]:
        row = joined_row(row, column_table(column), modulus)
    ends = [(entry[0] + price_across(pattern[last], signs), entry[1]) for signs, entry in enumerate(row)]
    found = counted_together(ends)
    return (found[0], found[1] % modulus)
