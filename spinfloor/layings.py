"""Layings of a web: what they cost, and which of their ties are unpleased."""

from spinfloor.errors import NoLaying
from spinfloor.masks import mask_of


def unpleased(web, laying):
    return mask_of([number for number, tie in enumerate(web.ties) if tie.unpleased(laying)])


def worth(web, laying):
    return sum([tie.price(laying) for tie in web.ties])


def pushes(web):
    return mask_of([number for number, tie in enumerate(web.ties) if tie.wish() == 1])


def odd_at(web, ties, number):
    return sum([(ties >> (dart // 2)) & 1 for dart in web.rounds[number]]) % 2


def odd_rounds(web):
    pushing = pushes(web)
    return mask_of([number for number in range(len(web.rounds)) if odd_at(web, pushing, number) == 1])


def refuse_ties(web, ties):
    pushing = pushes(web)
    for number in range(len(web.rounds)):
        if odd_at(web, ties, number) != odd_at(web, pushing, number):
            raise NoLaying(number)


def laying_of(web, ties):
    refuse_ties(web, ties)
    # All rounds are right, so on whatever way a place is come to from place 0, its sign is the same.
    signs = {0: 0}
    waiting = [0]
    while waiting != []:
        place = waiting.pop()
        for number in web.turns[place]:
            tie = web.ties[number]
            there = tie.across(place)
            if there not in signs:
                signs[there] = signs[place] ^ tie.wish() ^ ((ties >> number) & 1)
                waiting.append(there)
    return mask_of([place for place in signs if signs[place] == 1])
