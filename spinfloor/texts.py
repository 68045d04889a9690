"""How a web is written as a text, and how a text is read."""

from spinfloor.errors import BadText
from spinfloor.ties import Pull, Push
from spinfloor.webs import Web

MOST_FIGURES = 31
MOST_TIES = 80


def row_of(words):
    return " ".join([str(word) for word in words]) + "\n"


def tie_row(tie):
    kind = "push" if tie.wish() == 1 else "pull"
    return row_of([kind, tie.one, tie.two, tie.strength])


def written(web):
    rows = [row_of(["places", web.many])]
    rows.extend([tie_row(tie) for tie in web.ties])
    rows.extend([row_of(["about", place] + about) for place, about in enumerate(web.turns)])
    return "".join(rows)


def number_of(word, figures):
    # The length is looked at first: Python itself refuses to make a number of very many figures.
    if word == "" or len(word) > figures or not all([sign in "0123456789" for sign in word]):
        return None
    if word[0] == "0" and word != "0":
        return None
    return int(word)


def first_word(row):
    return row.partition(" ")[0]


def numbers_behind(first, row, figures):
    words = row.split(" ")
    numbers = [number_of(word, figures) for word in words[1:]]
    if words[0] != first or None in numbers:
        return None
    return numbers


def places_told(row):
    numbers = numbers_behind("places", row, MOST_FIGURES)
    if numbers is None or len(numbers) != 1 or numbers[0] < 2 or numbers[0] > 40:
        return None
    return numbers[0]


def tie_told(row):
    kind = first_word(row)
    numbers = numbers_behind(kind, row, MOST_FIGURES)
    if numbers is None or len(numbers) != 3 or numbers[2] > 10 ** 30:
        return None
    return (kind, numbers[0], numbers[1], numbers[2])


def turn_told(place, row):
    numbers = numbers_behind("about", row, MOST_FIGURES)
    if numbers is None or numbers == [] or numbers[0] != place:
        return None
    return numbers[1:]


def right(told, at):
    if told is None:
        raise BadText(at)
    return told


def row_at(rows, number):
    if number >= len(rows):
        raise BadText(len(rows) + 1)
    return rows[number]


def ties_told(rows):
    told = []
    number = 1
    while number < len(rows) and first_word(rows[number]) in ("pull", "push"):
        if number > MOST_TIES:
            raise BadText(number + 1)
        told.append(right(tie_told(rows[number]), number + 1))
        number = number + 1
    return told


def turns_told(many, rows, ahead):
    turns = []
    for place in range(many):
        number = ahead + place
        turns.append(right(turn_told(place, row_at(rows, number)), number + 1))
    return turns


def made(kind, one, two, strength):
    return Push(one, two, strength) if kind == "push" else Pull(one, two, strength)


def read(text):
    rows = text.split("\n")
    # Only rows with their line feed are left in the list; a row without it is as wrong as one that lacks.
    unended = rows.pop()
    many = right(places_told(row_at(rows, 0)), 1)
    told = ties_told(rows)
    turns = turns_told(many, rows, 1 + len(told))
    row_count = 1 + len(told) + many
    if len(rows) > row_count or unended != "":
        raise BadText(row_count + 1)
    return Web(many, [made(kind, one, two, strength) for kind, one, two, strength in told], turns)
