"""Strips laid as webs."""

from spinfloor.errors import TooWide
from spinfloor.strips import refuse_columns, refuse_pattern, rows_of
from spinfloor.ties import tie_of
from spinfloor.webs import Web

MOST_PLACES = 40


def strip_ties(pattern, columns):
    rows = rows_of(pattern)
    ties = []
    for column in range(columns):
        strengths = pattern[column % len(pattern)]
        first = column * rows
        ties.extend([tie_of(first + row, first + row + 1, signed) for row, signed in enumerate(strengths[0])])
        if column + 1 < columns:
            ties.extend([tie_of(first + row, first + rows + row, signed) for row, signed in enumerate(strengths[1])])
    return ties


# The places above, in the next column, below and in the column before, as far as they are there.
def near_places(rows, columns, place):
    found = []
    if place % rows > 0:
        found.append(place - 1)
    if place // rows + 1 < columns:
        found.append(place + rows)
    if place % rows + 1 < rows:
        found.append(place + 1)
    if place >= rows:
        found.append(place - rows)
    return found


def strip_turns(ties, rows, columns):
    number_of = {}
    for number, tie in enumerate(ties):
        number_of[(tie.one, tie.two)] = number
        number_of[(tie.two, tie.one)] = number
    turns = []
    for place in range(rows * columns):
        turns.append([number_of[(place, there)] for there in near_places(rows, columns, place)])
    return turns


def strip_web(pattern, columns):
    refuse_pattern(pattern)
    refuse_columns(columns)
    rows = rows_of(pattern)
    many = rows * columns
    if many > MOST_PLACES or many == 1:
        raise TooWide("the strip has more than 40 places, or only one")
    ties = strip_ties(pattern, columns)
    return Web(many, ties, strip_turns(ties, rows, columns))
