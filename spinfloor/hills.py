"""Hills: sets of rooms with prices that show what a joining of the marks costs at least."""

from spinfloor.masks import bits
from spinfloor.pairing import heights, root_of


# The levels at which rooms and links get dry, the highest first, each with the rooms that are of one piece from there
# down: a room by itself, or the two ends of a link.
def dryings(links, tops):
    found = [(2 * top, 1 << room) for room, top in enumerate(tops)]
    found.extend([(tops[one] + tops[two] - length, (1 << one) | (1 << two)) for one, two, length in links])
    return list(reversed(sorted(found)))


def joined(pieces, rooms):
    piece = rooms
    for room in bits(rooms):
        piece = piece | pieces[room]
    return [piece if ((piece >> room) & 1) == 1 else before for room, before in enumerate(pieces)]


def hills(many, links, marks):
    row = dryings(links, heights(many, links, marks))
    root = root_of(marks)
    # For each room the piece that it is in, nought while it is wet.
    pieces = [0 for room in range(many)]
    prices = {}
    # Behind the last one all rooms are one piece, which holds the root.
    for drying, lower in zip(row, row[1:]):
        pieces = joined(pieces, drying[1])
        levels = drying[0] - lower[0]
        for piece in sorted(set(pieces)):
            if levels > 0 and piece != 0 and ((piece >> root) & 1) == 0:
                prices[piece] = prices.get(piece, 0) + levels
    return list(prices.items())
