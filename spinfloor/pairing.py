"""Joinings of marked rooms: the least cost, a cheapest joining, and the heights of the rooms."""

from spinfloor.errors import OddMarks, Parted, TooRough
from spinfloor.fares import fares, row_to, whole
from spinfloor.masks import bits, mask_of, odd, ones

MOST_MARKS = 14


def odd_ends(links, used):
    rooms = 0
    for number, link in enumerate(links):
        if ((used >> number) & 1) == 1:
            rooms = rooms ^ (1 << link[0]) ^ (1 << link[1])
    return rooms


def refuse_marks(many, links, marks):
    if odd(marks) == 1:
        raise OddMarks("an odd number of rooms is marked")
    if not whole(many, links):
        raise Parted("the rooms don't all hang together")
    if ones(marks) > MOST_MARKS:
        raise TooRough("more than 14 rooms are marked")


def chosen_of(entries, numbers):
    return [entries[number] for number in numbers]


def best_pair(between, table, chosen):
    numbers = bits(chosen)
    if len(numbers) % 2 == 1:
        return None
    first = numbers[0]
    rest = chosen ^ (1 << first)
    return min([(between[first][mate] + table[rest ^ (1 << mate)][0], first, mate) for mate in numbers[1:]])


# For each set of the rooms between which the fares are told, in the order of the masks: the least sum of fares with
# which they can be laid in pairs, and one of these pairs. It stands on the entries of lesser sets, ahead of it.
def pair_table(between):
    table = [(0, None, None)]
    for chosen in range(1, 1 << len(between)):
        table.append(best_pair(between, table, chosen))
    return table


def paired(many, links, marks):
    refuse_marks(many, links, marks)
    rooms = bits(marks)
    found = [fares(many, links, room) for room in rooms]
    table = pair_table([chosen_of(told, rooms) for told, via in found])
    left = len(table) - 1
    cost = table[left][0]
    used = 0
    while left != 0:
        first = table[left][1]
        mate = table[left][2]
        # A link that lies in two rows falls out.
        used = used ^ mask_of(row_to(links, found[first][1], rooms[mate]))
        left = left ^ (1 << first) ^ (1 << mate)
    return (cost, used)


def root_of(marks):
    return bits(marks)[0] if marks != 0 else 0


# With the root and a room turned over, the others and that room are marked; where it is one of the others its fare
# from itself is nought, and it falls out. With the root for that room the marks are what they were.
def heights(many, links, marks):
    refuse_marks(many, links, marks)
    root = root_of(marks)
    others = bits(marks ^ (1 << root))
    found = [fares(many, links, room)[0] for room in others]
    table = pair_table([chosen_of(told, others) for told in found])
    everyone = len(table) - 1
    costs = []
    for room in range(many):
        ways = [told[room] + table[everyone ^ (1 << number)][0] for number, told in enumerate(found)]
        costs.append(min(ways))
    return [costs[root] - cost for cost in costs]
