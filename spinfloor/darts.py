"""Ties walked both ways, and the rounds that such walks shut.

Dart 2 * i goes along tie i from its field one to its field two, dart 2 * i + 1 goes back.
"""


def tail(ties, dart):
    tie = ties[dart // 2]
    return tie.one if dart % 2 == 0 else tie.two


def head(ties, dart):
    tie = ties[dart // 2]
    return tie.two if dart % 2 == 0 else tie.one


def leaving(ties, number, place):
    return 2 * number if ties[number].one == place else 2 * number + 1


def follower(ties, turns, dart):
    place = head(ties, dart)
    about = turns[place]
    behind = (about.index(dart // 2) + 1) % len(about)
    return leaving(ties, about[behind], place)


def round_from(ties, turns, first):
    row = [first]
    dart = follower(ties, turns, first)
    while dart != first:
        row.append(dart)
        dart = follower(ties, turns, dart)
    return row


def rounds_of(ties, turns):
    rounds = []
    seen = {}
    # Darts are tried ascending, so each round is found at its least dart and the rounds come in the order of these.
    for dart in range(2 * len(ties)):
        if dart not in seen:
            row = round_from(ties, turns, dart)
            rounds.append(row)
            for gone in row:
                seen[gone] = True
    return rounds


def sides_of(ties, rounds):
    number_at = {}
    for number, row in enumerate(rounds):
        for dart in row:
            number_at[dart] = number
    return [(number_at[2 * i], number_at[2 * i + 1]) for i in range(len(ties))]
