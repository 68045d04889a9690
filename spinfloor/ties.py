"""Ties between two places: pulls, which want their ends alike, and pushes, which want them unlike."""

from spinfloor.errors import BadTie


class Tie:
    def __init__(self, one, two, strength):
        if one == two:
            raise BadTie("the two ends of a tie are the same place")
        if one < 0 or two < 0:
            raise BadTie("an end of a tie is below nought")
        if strength < 0:
            raise BadTie("the strength of a tie is below nought")
        self.one = one
        self.two = two
        self.strength = strength

    def wish(self):
        return 0

    def unpleased(self, laying):
        unlike = ((laying >> self.one) ^ (laying >> self.two)) & 1
        return unlike != self.wish()

    def price(self, laying):
        return self.strength if self.unpleased(laying) else 0

    def signed(self):
        return self.strength if self.wish() == 0 else -self.strength

    def across(self, place):
        return self.two if place == self.one else self.one


# What Tie answers is what a pull wants; a push alone answers otherwise.
class Pull(Tie):
    pass


class Push(Tie):
    def wish(self):
        return 1


def tie_of(one, two, signed):
    if signed < 0:
        return Push(one, two, -signed)
    return Pull(one, two, signed)
