"""Patches, sets of places that are turned over: their rims, gains and pieces."""

from spinfloor.layings import worth
from spinfloor.masks import bits, mask_of
from spinfloor.reach import reached


def ends_within(tie, patch):
    return ((patch >> tie.one) & 1) + ((patch >> tie.two) & 1)


def rim(web, patch):
    return mask_of([number for number, tie in enumerate(web.ties) if ends_within(tie, patch) == 1])


def gain(web, laying, patch):
    return worth(web, laying) - worth(web, laying ^ patch)


def pieces(web, patch):
    pairs = [(tie.one, tie.two) for tie in web.ties if ends_within(tie, patch) == 2]
    found = []
    seen = 0
    # Places are tried ascending, so each piece is found at its least place.
    for place in bits(patch):
        if ((seen >> place) & 1) == 0:
            piece = reached(place, pairs)
            found.append(piece)
            seen = seen | piece
    return found
