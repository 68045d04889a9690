"""Examines whether a paper shows a set of links to be a cheapest joining, whoever wrote it."""

from spinfloor.masks import odd
from spinfloor.pairing import odd_ends


def joins(links, marks, used):
    return (used >> len(links)) == 0 and odd_ends(links, used) == marks


# Whether the mask is one of rooms is asked first: nothing more is asked of one that isn't.
def counts(many, marks, rooms, price):
    return rooms >= 0 and (rooms >> many) == 0 and odd(rooms & marks) == 1 and price >= 1


def paid_over(link, paper):
    return sum([price for rooms, price in paper if (((rooms >> link[0]) ^ (rooms >> link[1])) & 1) == 1])


def cost_of(links, used):
    return sum([link[2] for number, link in enumerate(links) if ((used >> number) & 1) == 1])


def examined(many, links, marks, used, paper):
    if not joins(links, marks, used):
        return False
    if not all([counts(many, marks, rooms, price) for rooms, price in paper]):
        return False
    if not all([paid_over(link, paper) <= 2 * link[2] for link in links]):
        return False
    return sum([price for rooms, price in paper]) == 2 * cost_of(links, used)
