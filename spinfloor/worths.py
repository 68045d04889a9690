"""Each worth that some laying of a web has, and how many layings have it."""

from spinfloor.errors import TooWide
from spinfloor.fronts import fronts, order_of, ties_back
from spinfloor.tables import signs_with

MOST_PLACES = 16


def add_counts(counts, price, more):
    for worth, many in more.items():
        counts[worth + price] = counts.get(worth + price, 0) + many


# For the signs of a front a dict: of each sum of prices behind it how many ways have it.
def counts_behind(counts, place, ties, front):
    found = {}
    for signs, sums in counts.items():
        for here in signs_with(place, signs):
            price = sum([tie.price(here) for tie in ties])
            add_counts(found.setdefault(here & front, {}), price, sums)
    return found


def worths(web, order=None):
    places = order_of(web, order)
    if web.many > MOST_PLACES:
        raise TooWide("the web has more than sixteen places")
    counts = {0: {0: 1}}
    for place, back, front in zip(places, ties_back(web, places), fronts(web, places)[1:]):
        counts = counts_behind(counts, place, [web.ties[number] for number in back], front)
    return sorted(counts[0].items())
