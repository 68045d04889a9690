"""Webs: places joined by ties that lie flat and shut in rounds."""

from spinfloor.darts import rounds_of, sides_of
from spinfloor.errors import BadTie, BadTurns, NotFlat, Parted
from spinfloor.reach import reached


def refuse_ends(many, ties):
    for tie in ties:
        if tie.one >= many or tie.two >= many:
            raise BadTie("a tie ends at no place of the web")


def refuse_turns(many, ties, turns):
    ending = [[] for place in range(many)]
    for number, tie in enumerate(ties):
        ending[tie.one].append(number)
        ending[tie.two].append(number)
    # This sees a wrong number of lists, too.
    if [sorted(about) for about in turns] != ending:
        raise BadTurns("the turns don't tell just the ties that end at each place")


def refuse_parted(many, ties):
    if reached(0, [(tie.one, tie.two) for tie in ties]) != (1 << many) - 1:
        raise Parted("some place can't be come to from place 0")


class Web:
    def __init__(self, many, ties, turns):
        refuse_ends(many, ties)
        refuse_turns(many, ties, turns)
        refuse_parted(many, ties)
        rounds = rounds_of(ties, turns)
        if many - len(ties) + len(rounds) != 2:
            raise NotFlat("the turns don't lie on a plane")
        self.many = many
        self.ties = list(ties)
        self.turns = [list(about) for about in turns]
        self.rounds = rounds
        self.sides = sides_of(ties, rounds)
