"""Joinings of marked rooms: the least cost, a cheapest joining, and the heights of the rooms."""

from spinfloor.errors import OddMarks, Parted, TooRough
from spinfloor.fares import fares, row_to, whole
from spinfloor.masks import bits, mask_of, odd, ones

MOST_MARKS = 14


def odd_ends(links, used):
    rooms = 0
    for number, link in enumerate(links):
        if ((used >> number) & 1) == 1:
            rooms = rooms ^ (1 << link[0]) ^ (1 << link[1])
    return rooms


def refuse_marks(many, links, marks):
    if odd(marks) == 1:
        raise OddMarks("an odd number of rooms is marked")
    if not whole(many, links):
        raise Parted("the rooms don't all hang together")
    if ones(marks) > MOST_MARKS:
        raise TooRough("more than 14 rooms are marked")


def chosen_of(entries, numbers):
    return [entries[number] for number in numbers]


# The least sum of fares with which the rooms of a set can be laid in pairs, and one of these pairs, a number and its
# mate. The table keeps what was found. Always the first room is paired next: so few of all sets are met.
def laid_in_pairs(between, chosen, table):
    if chosen not in table:
        numbers = bits(chosen)
        first = numbers[0]
        ways = []
        for mate in numbers[1:]:
            rest = chosen ^ (1 << first) ^ (1 << mate)
            ways.append((between[first][mate] + laid_in_pairs(between, rest, table)[0], first, mate))
        table[chosen] = min(ways)
    return table[chosen]


def new_table():
    return {0: (0, None, None)}


def paired(many, links, marks):
    refuse_marks(many, links, marks)
    rooms = bits(marks)
    found = [fares(many, links, room) for room in rooms]
    between = [chosen_of(told, rooms) for told, via in found]
    table = new_table()
    left = (1 << len(rooms)) - 1
    cost = laid_in_pairs(between, left, table)[0]
    used = 0
    while left != 0:
        first = table[left][1]
        mate = table[left][2]
        # A link that lies in two rows falls out.
        used = used ^ mask_of(row_to(links, found[first][1], rooms[mate]))
        left = left ^ (1 << first) ^ (1 << mate)
    return (cost, used)


def root_of(marks):
    return bits(marks)[0] if marks != 0 else 0


# With the root and a room turned over, the others and that room are marked; where it is one of the others its fare
# from itself is nought, and it falls out. With the root for that room the marks are what they were.
def heights(many, links, marks):
    refuse_marks(many, links, marks)
    root = root_of(marks)
    others = bits(marks ^ (1 << root))
    found = [fares(many, links, room)[0] for room in others]
    between = [chosen_of(told, others) for told in found]
    table = new_table()
    everyone = (1 << len(others)) - 1
    rests = [laid_in_pairs(between, everyone ^ (1 << number), table)[0] for number in range(len(others))]
    costs = []
    for room in range(many):
        costs.append(min([told[room] + rest for told, rest in zip(found, rests)]))
    return [costs[root] - cost for cost in costs]
