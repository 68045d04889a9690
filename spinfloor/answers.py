"""Answers: texts that tell a laying and its paper."""

from spinfloor.errors import BadText
from spinfloor.layings import worth
from spinfloor.least import certain, least
from spinfloor.masks import bits, mask_of
from spinfloor.texts import numbers_behind, read, right, row_at, row_of

MOST_FIGURES = 40
LAST_NUMBER = 79


def shown(found):
    rows = [row_of(["worth", found[0]]), row_of(["down"] + bits(found[1]))]
    rows.extend([row_of(["hill", price] + bits(rounds)) for rounds, price in found[2]])
    return "".join(rows)


def set_told(numbers):
    if not all([one < two for one, two in zip(numbers, numbers[1:])]):
        return None
    # Looked at ahead of the making: a mask with so great a number in it could not be made.
    if numbers != [] and numbers[-1] > LAST_NUMBER:
        return None
    return mask_of(numbers)


def worth_told(row):
    numbers = numbers_behind("worth", row, MOST_FIGURES)
    if numbers is None or len(numbers) != 1:
        return None
    return numbers[0]


def down_told(row):
    numbers = numbers_behind("down", row, MOST_FIGURES)
    if numbers is None:
        return None
    return set_told(numbers)


def hill_told(row):
    numbers = numbers_behind("hill", row, MOST_FIGURES)
    if numbers is None or len(numbers) < 2 or numbers[0] < 1:
        return None
    rounds = set_told(numbers[1:])
    return None if rounds is None else (rounds, numbers[0])


def taken(text):
    rows = text.split("\n")
    unended = rows.pop()
    told = right(worth_told(row_at(rows, 0)), 1)
    laying = right(down_told(row_at(rows, 1)), 2)
    paper = [right(hill_told(row), at) for at, row in enumerate(rows[2:], start=3)]
    if unended != "":
        raise BadText(len(rows) + 1)
    return (told, laying, paper)


def settles(web, text):
    try:
        found = taken(text)
    except BadText:
        return False
    laying = found[1]
    return (laying >> web.many) == 0 and worth(web, laying) == found[0] and certain(web, laying, found[2])


def answer(text):
    return shown(least(read(text)))
