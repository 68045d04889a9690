"""A least laying of a web with a paper that shows it least, and whether a paper does so."""

from spinfloor.errors import TooRough
from spinfloor.examiner import examined
from spinfloor.hills import hills
from spinfloor.layings import laying_of, odd_rounds, unpleased
from spinfloor.masks import ones
from spinfloor.other import links_of
from spinfloor.pairing import paired

MOST_ODD = 12


# The odd rounds of a web, as marks of the other web.
def marks_of(web):
    marks = odd_rounds(web)
    if ones(marks) > MOST_ODD:
        raise TooRough("more than 12 rounds are odd")
    return marks


def least(web):
    marks = marks_of(web)
    many = len(web.rounds)
    links = links_of(web)
    found = paired(many, links, marks)
    return (found[0], laying_of(web, found[1]), hills(many, links, marks))


def certain(web, laying, paper):
    return examined(len(web.rounds), links_of(web), odd_rounds(web), unpleased(web, laying), paper)
