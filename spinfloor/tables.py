"""Tables over a front: for all signs on it the least sum behind it, and how many ways have that sum.

An entry is a pair: a low, and how many have it.
"""

from spinfloor.errors import TooWide
from spinfloor.fronts import fronts, order_of, ties_back
from spinfloor.masks import ones

WIDEST = 8


# The least low of some entries, and how many have it in all of them.
def counted_together(entries):
    low = min([entry[0] for entry in entries])
    return (low, sum([entry[1] for entry in entries if entry[0] == low]))


def refuse_wide(found):
    for front in found:
        if ones(front) > WIDEST:
            raise TooWide("a front has more than eight places")


def signs_with(place, signs):
    return [signs, signs | (1 << place)]


# From the entries for the signs of a front to those of the front behind the next place, whose ties back are told.
def entries_behind(entries, place, ties, front):
    found = {}
    for signs, entry in entries.items():
        for here in signs_with(place, signs):
            low = entry[0] + sum([tie.price(here) for tie in ties])
            found.setdefault(here & front, []).append((low, entry[1]))
    together = {}
    for signs in found:
        together[signs] = counted_together(found[signs])
    return together


def front_table(web, order, count):
    places = order_of(web, order)
    found = fronts(web, places)[:count + 1]
    refuse_wide(found)
    entries = {0: (0, 1)}
    for place, back, front in zip(places, ties_back(web, places), found[1:]):
        entries = entries_behind(entries, place, [web.ties[number] for number in back], front)
    return [(signs, entries[signs][0], entries[signs][1]) for signs in sorted(entries)]


def least_many(web, order=None):
    row = front_table(web, order, web.many)[0]
    return (row[1], row[2])
