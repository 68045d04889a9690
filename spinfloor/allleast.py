"""All least layings of a web, and the steps between two layings.

The places are gone through one by one. What has come so far goes on by its front alone: by the signs of those places
that have ties to places ahead.
"""

from spinfloor.errors import TooMany
from spinfloor.examiner import paid_over
from spinfloor.fronts import fronts, ties_back
from spinfloor.least import least
from spinfloor.masks import bits, mask_of, ones
from spinfloor.other import links_of
from spinfloor.patches import pieces


def tight_ties(web, paper):
    return mask_of([number for number, link in enumerate(links_of(web)) if paid_over(link, paper) == 2 * link[2]])


def near_places(web):
    near = [0 for place in range(web.many)]
    for tie in web.ties:
        near[tie.one] = near[tie.one] | (1 << tie.two)
        near[tie.two] = near[tie.two] | (1 << tie.one)
    return near


def kept_on_front(near, behind, front):
    return mask_of([place for place in bits(front) if (near[place] & behind) != near[place]])


# An order whose fronts are narrow, since what is gone through grows with each place on a front: next is always the
# place that leaves the fewest on it, and of such places the one with the most ties back.
def narrow_order(web):
    near = near_places(web)
    order = []
    behind = 0
    front = 0
    while len(order) < web.many:
        choices = []
        for place in range(web.many):
            if ((behind >> place) & 1) == 0:
                width = ones(kept_on_front(near, behind | (1 << place), front | (1 << place)))
                choices.append((width, -ones(near[place] & behind), place))
        place = min(choices)[2]
        order.append(place)
        behind = behind | (1 << place)
        front = kept_on_front(near, behind, front | (1 << place))
    return order


def signings(place, signs):
    # Place 0 stays up: all layings with it down are these turned over.
    return [signs] if place == 0 else [signs, signs | (1 << place)]


# What the ties cost, or None where one that isn't tight would be unpleased: then the laying is no least one.
def cost_if_tight(ties, signs):
    cost = 0
    for tie, tight in ties:
        if tie.unpleased(signs):
            if not tight:
                return None
            cost = cost + tie.strength
    return cost


# For each place of the order: the place, the ties that lead from it back, with whether they are tight, and the front
# behind it.
def stations(web, order, tight):
    found = []
    for place, back, front in zip(order, ties_back(web, order), fronts(web, order)[1:]):
        ties = [(web.ties[number], ((tight >> number) & 1) == 1) for number in back]
        found.append((place, ties, front))
    return found


def moves_from(place, back, front, signs):
    found = []
    for here in signings(place, signs):
        cost = cost_if_tight(back, here)
        if cost is not None:
            found.append((here & (1 << place), here & front, cost))
    return found


def signs_behind(moves):
    met = {}
    for found in moves.values():
        for own, then, cost in found:
            met[then] = True
    return list(met)


# For each place of the order a dict: for all signs to which the front ahead of it can come the moves from there, each
# the place's own sign, the signs of the front behind it, and what the ties back cost.
def all_moves(web, tight):
    rows = []
    coming = [0]
    for place, back, front in stations(web, narrow_order(web), tight):
        moves = {}
        for signs in coming:
            moves[signs] = moves_from(place, back, front, signs)
        rows.append(moves)
        coming = signs_behind(moves)
    return rows


# The same with those moves alone from which on the least can be had. So no laying that is begun by them must be given
# up later, and as many as are begun are least.
def best_moves(rows):
    kept = []
    least_ahead = {0: 0}
    for moves in reversed(rows):
        best = {}
        least_here = {}
        for signs, found in moves.items():
            ways = [(cost + least_ahead[then], own, then) for own, then, cost in found if then in least_ahead]
            if ways != []:
                low = min(ways)[0]
                least_here[signs] = low
                best[signs] = [(own, then) for cost, own, then in ways if cost == low]
        kept.append(best)
        least_ahead = least_here
    return list(reversed(kept))


def all_least(web, most=64):
    paper = least(web)[2]
    begun = [(0, 0)]
    for best in best_moves(all_moves(web, tight_ties(web, paper))):
        longer = []
        for laying, signs in begun:
            longer.extend([(laying | own, then) for own, then in best[signs]])
        if len(longer) > most:
            raise TooMany("there are more least layings than asked for")
        begun = longer
    return sorted([laying for laying, signs in begun])


def free_steps(web, one, two):
    return pieces(web, one ^ two)
