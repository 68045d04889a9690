"""A desk: holds a web that was read and changes it by deeds, which can be taken back."""

from spinfloor.answers import shown
from spinfloor.errors import BadDeed
from spinfloor.least import least
from spinfloor.roofs import roof
from spinfloor.texts import first_word, made, numbers_behind, read, written
from spinfloor.webs import Web

MOST_FIGURES = 31


def numbers_told(word, row, many):
    numbers = numbers_behind(word, row, MOST_FIGURES)
    if numbers is None or len(numbers) != many:
        raise BadDeed("the row is no deed")
    return numbers


def with_tie(web, kind, number, strength):
    if number >= len(web.ties) or strength > 10 ** 30:
        raise BadDeed("the web lacks the tie, or its strength is beyond the bounds")
    ties = list(web.ties)
    ties[number] = made(kind, ties[number].one, ties[number].two, strength)
    return Web(web.many, ties, web.turns)


def turned(tie):
    return made("pull" if tie.wish() == 1 else "push", tie.one, tie.two, tie.strength)


def flipped(web, place):
    if place >= web.many:
        raise BadDeed("the web lacks the place")
    ties = list(web.ties)
    for number in web.turns[place]:
        ties[number] = turned(ties[number])
    return Web(web.many, ties, web.turns)


def changed(web, row):
    word = first_word(row)
    if word == "flip":
        return flipped(web, numbers_told(word, row, 1)[0])
    if word in ("pull", "push"):
        numbers = numbers_told(word, row, 2)
        return with_tie(web, word, numbers[0], numbers[1])
    raise BadDeed("the row is no deed")


class Desk:
    def __init__(self, text):
        # First the web that was read, then what each deed made of it that isn't taken back.
        self.webs = [read(text)]

    def do(self, row):
        if row != "back":
            self.webs.append(changed(self.webs[-1], row))
        elif self.left() > 0:
            self.webs.pop()
        else:
            raise BadDeed("no deed is left")

    def left(self):
        return len(self.webs) - 1

    def text(self):
        return written(self.webs[-1])

    def answer(self):
        return shown(least(self.webs[-1]))

    def roof(self, number):
        return roof(self.webs[-1], number)
