"""Ways from laying to laying by turning places over one by one, and how high they come."""

from spinfloor.errors import TooWide
from spinfloor.layings import worth

MOST_PLACES = 10


def all_worths(web):
    if web.many > MOST_PLACES:
        raise TooWide("the web has more than ten places")
    return [worth(web, laying) for laying in range(1 << web.many)]


def steps_from(web, laying):
    return [laying ^ (1 << place) for place in range(web.many)]


# All layings to which steps lead that are let, each with the one ahead of it on the way there.
def come_to(web, start, let):
    ahead = {start: None}
    row = [start]
    while row != []:
        further = []
        for here in row:
            for there in steps_from(web, here):
                if there not in ahead and let(here, there):
                    ahead[there] = here
                    further.append(there)
        row = further
    return ahead


def come_to_below(web, costs, start, height):
    return come_to(web, start, lambda here, there: costs[there] < height)


# The least of the heights, which are told ascending, up to which a way leads; the last one is high enough for all ways.
def least_height(web, costs, heights, start, goal):
    lower = 0
    upper = len(heights) - 1
    while lower < upper:
        middle = (lower + upper) // 2
        if goal in come_to_below(web, costs, start, heights[middle] + 1):
            upper = middle
        else:
            lower = middle + 1
    return heights[lower]


def way_to(ahead, goal):
    back = []
    here = goal
    while here is not None:
        back.append(here)
        here = ahead[here]
    return list(reversed(back))


def climb(web, start, goal):
    costs = all_worths(web)
    ends = max(costs[start], costs[goal])
    heights = sorted(set([cost for cost in costs if cost >= ends]))
    height = least_height(web, costs, heights, start, goal)
    return (height, way_to(come_to_below(web, costs, start, height + 1), goal))


def shore(web, start, height):
    costs = all_worths(web)
    if costs[start] >= height:
        return []
    return sorted(come_to_below(web, costs, start, height))


def falls(web, start):
    costs = all_worths(web)
    return sorted(come_to(web, start, lambda here, there: costs[there] <= costs[here]))


def rests(web, costs, laying):
    return all([costs[there] >= costs[laying] for there in steps_from(web, laying)])


def resting(web):
    costs = all_worths(web)
    return [laying for laying in range(len(costs)) if rests(web, costs, laying)]
