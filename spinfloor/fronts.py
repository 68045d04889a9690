"""Orders of a web's places, and the fronts behind their first places."""

from spinfloor.errors import BadOrder
from spinfloor.patches import ends_within


def order_of(web, order):
    places = list(range(web.many))
    if order is None:
        return places
    if sorted(order) != places:
        raise BadOrder("the order doesn't tell each place just once")
    return list(order)


def front_of(web, behind):
    front = 0
    for tie in web.ties:
        if ends_within(tie, behind) == 1:
            front = front | (behind & ((1 << tie.one) | (1 << tie.two)))
    return front


def fronts(web, order=None):
    found = [0]
    behind = 0
    for place in order_of(web, order):
        behind = behind | (1 << place)
        found.append(front_of(web, behind))
    return found


# For each place of an order the numbers of the ties that lead from it back to places ahead of it in the order.
def ties_back(web, order):
    found = []
    behind = 0
    for place in order:
        behind = behind | (1 << place)
        found.append([number for number in web.turns[place] if ends_within(web.ties[number], behind) == 2])
    return found
