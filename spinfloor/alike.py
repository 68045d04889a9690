"""Ties whose ends stand in all least layings in the same way, and what it costs to have them otherwise."""

from spinfloor.roofs import paid_alike, paid_unlike, roof


def both_ways_of(web, number):
    pair = roof(web, number)
    pull = web.ties[number].signed()
    return (pair[0] + paid_alike(pull), pair[1] + paid_unlike(pull))


def both_ways(web):
    return [both_ways_of(web, number) for number in range(len(web.ties))]


def setting(pair):
    if pair[0] < pair[1]:
        return (0, pair[1] - pair[0])
    if pair[1] < pair[0]:
        return (1, pair[0] - pair[1])
    return (None, 0)


def set_ties(web):
    return [setting(pair) for pair in both_ways(web)]
