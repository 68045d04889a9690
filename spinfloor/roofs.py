"""What another pull of a tie does to the least worth of a web."""

from spinfloor.least import marks_of
from spinfloor.other import links_of
from spinfloor.pairing import paired
from spinfloor.ties import tie_of
from spinfloor.webs import Web


def with_pull(web, number, pull):
    ties = list(web.ties)
    ties[number] = tie_of(ties[number].one, ties[number].two, pull)
    return Web(web.many, ties, web.turns)


# Where the tie is unpleased, its link belongs to the joining, and the others join what is left: the odd rounds with
# the two at the tie's sides turned over. Where it is pleased, the others join the odd rounds by themselves.
def roof(web, number):
    marks = marks_of(web)
    many = len(web.rounds)
    links = links_of(web)
    link = links.pop(number)
    pleased = paired(many, links, marks)[0]
    displeased = paired(many, links, marks ^ (1 << link[0]) ^ (1 << link[1]))[0]
    return (pleased, displeased) if web.ties[number].wish() == 0 else (displeased, pleased)


def paid_alike(pull):
    return max(0, -pull)


def paid_unlike(pull):
    return max(0, pull)


def at_pull(pair, pull):
    return min(pair[0] + paid_alike(pull), pair[1] + paid_unlike(pull))
