"""Webs, rooms and links that several tests take, made without chance."""

import itertools

from spinfloor.errors import FloorError
from spinfloor.ties import Pull, Push
from spinfloor.webs import Web

GREATEST = 10 ** 30
STRENGTHS = [0, 1, 1, 2, 3, 3, 5, 8, GREATEST]


class Dice:
    """A fixed row of numbers that look as if by chance, the same under every Python."""

    def __init__(self, seed):
        self.state = seed

    def under(self, bound):
        self.state = (self.state * 6364136223846793005 + 1442695040888963407) % 2 ** 64
        return (self.state >> 33) % bound

    def one_of(self, things):
        return things[self.under(len(things))]

    def mixed(self, things):
        left, row = list(things), []
        while left:
            row.append(left.pop(self.under(len(left))))
        return row


def ties_of(ends):
    # The kinds alternate, so that neither kind is left out.
    return [(Push if i % 2 else Pull)(one, two, i) for i, (one, two) in enumerate(ends)]


def fields(ties):
    return [(type(tie), tie.one, tie.two, tie.strength) for tie in ties]


def all_fields(web):
    return (web.many, fields(web.ties), web.turns, web.rounds, web.sides)


def plain_turns(many, ties):
    return [[i for i, tie in enumerate(ties) if place in (tie.one, tie.two)] for place in range(many)]


def all_turns(many, ties):
    lists = [list(itertools.permutations(about)) for about in plain_turns(many, ties)]
    for chosen in itertools.product(*lists):
        yield [list(about) for about in chosen]


def grid(rows, columns):
    # Places row by row; the turns tell the ties above, to the right, below and to the left.
    number_of, ends = {}, []
    for r, c in itertools.product(range(rows), range(columns)):
        for down, right in [(0, 1), (1, 0)]:
            if r + down < rows and c + right < columns:
                number_of[(r, c), (r + down, c + right)] = len(ends)
                number_of[(r + down, c + right), (r, c)] = len(ends)
                ends.append((r * columns + c, (r + down) * columns + c + right))
    turns = []
    for r, c in itertools.product(range(rows), range(columns)):
        near = [(r - 1, c), (r, c + 1), (r + 1, c), (r, c - 1)]
        turns.append([number_of[(r, c), there] for there in near if ((r, c), there) in number_of])
    return ties_of(ends), turns


def doubled_ring(many):
    # Two ties with the same ends from each place to the next one; tie 2 * p is the outer one of place p.
    ends = [(p, (p + 1) % many) for p in range(many) for twice in range(2)]
    turns = [[2 * p, 2 * p + 1, (2 * p - 1) % (2 * many), (2 * p - 2) % (2 * many)] for p in range(many)]
    return ties_of(ends), turns


def corners(ends, turns):
    """The rounds, walked without the program: for each its corners, a place and where a tie could come into its list."""
    darts = [(i, way) for i in range(len(ends)) for way in range(2)]
    while darts:
        first, dart, row = darts[0], None, []
        while dart != first:
            i, way = dart = dart or first
            darts.remove(dart)
            place = ends[i][1 - way]
            spot = turns[place].index(i) + 1
            row.append((place, spot))
            behind = turns[place][spot % len(turns[place])]
            dart = (behind, ends[behind].index(place))
        yield row


def grown_ends(dice, many, ties):
    """Ends and turns of a flat web: a tree, and then ties each of which parts a round in two."""
    ends, turns = [(0, 1)], [[0], [0]]
    for place in range(2, many):
        there = dice.under(place)
        turns[there].insert(dice.under(len(turns[there]) + 1), len(ends))
        turns.append([len(ends)])
        ends.append((there, place))
    while len(ends) < ties:
        row = dice.one_of(list(corners(ends, turns)))
        one, spot = dice.one_of(row)
        two, other_spot = dice.one_of([corner for corner in row if corner[0] != one])
        turns[one].insert(spot, len(ends))
        turns[two].insert(other_spot, len(ends))
        ends.append((one, two))
    return ends, turns


def grown(seed, many, ties, strengths=STRENGTHS):
    """A flat web with its places and ties numbered anew, their ends and the turns' first ties taken anyhow."""
    dice = Dice(seed)
    ends, turns = grown_ends(dice, many, ties)
    places, order = dice.mixed(range(many)), dice.mixed(range(ties))
    made = []
    for i in order:
        one, two = dice.mixed([places[end] for end in ends[i]])
        made.append(dice.one_of([Pull, Push])(one, two, dice.one_of(strengths)))
    lists = [None] * many
    for place, about in enumerate(turns):
        cut = dice.under(len(about))
        lists[places[place]] = [order.index(i) for i in about[cut:] + about[:cut]]
    return Web(many, made, lists)


def small_webs(most_places=6, most_ties=9, count=60):
    for seed in range(count):
        many = 2 + seed % (most_places - 1)
        yield grown(seed, many, many - 1 + seed // 7 % (most_ties - many + 2))


def great_webs():
    """Webs at the bounds: 40 places, 80 ties, or both."""
    yield Web(40, *grid(5, 8))
    yield Web(40, *doubled_ring(40))
    yield grown(1, 40, 39)
    yield grown(2, 40, 80)
    yield grown(3, 2, 80)
    yield grown(4, 17, 80, [GREATEST])
    yield grown(5, 40, 80, [0])


def down(mask, number):
    return mask // 2 ** number % 2


def alike(laying, tie):
    return down(laying, tie.one) == down(laying, tie.two)


def cost_of(web, laying):
    """A laying's worth, told without the program's words for it."""
    return sum(tie.strength for tie in web.ties if alike(laying, tie) == isinstance(tie, Push))


LONGEST = 10 ** 31
LENGTHS = [0, 1, 1, 2, 3, 3, 5, 8, LONGEST]


def strewn(seed, many, links, lengths=LENGTHS):
    """Links anyhow: rooms needn't hang together, some links have the same ends, some lead from a room to itself."""
    dice = Dice(1000 + seed)
    return [(dice.under(many), dice.under(many), dice.one_of(lengths)) for times in range(links)]


def hanging(seed, many, links, lengths=LENGTHS):
    """As many links, but so that all rooms hang together, numbered anyhow."""
    dice = Dice(2000 + seed)
    tree = [(dice.under(room), room, dice.one_of(lengths)) for room in range(1, many)]
    numbers = dice.mixed(range(many))
    made = []
    for one, two, length in tree + strewn(seed, many, links - len(tree), lengths):
        one, two = dice.mixed([numbers[one], numbers[two]])
        made.append((one, two, length))
    return dice.mixed(made)


def some_marks(seed, many, count):
    return sum(2 ** room for room in Dice(3000 + seed).mixed(range(many))[:count])


def line(many, length=1):
    return [(room, room + 1, length) for room in range(many - 1)]


def marked_rooms(count=150):
    """Small ones, with an even number of marks: a number of rooms, links, marks."""
    lists = [[1], [0, 1], [1, 2, 3], [0, 1, 2, 5, 9], LENGTHS, [LONGEST, LONGEST - 1]]
    for seed in range(count):
        many = 1 + seed % 7
        links = hanging(seed, many, many - 1 + seed // 7 % 6, lists[seed % 11 % 6])
        yield many, links, some_marks(seed, many, seed // 5 % (many // 2 + 1) * 2)


def great_rooms():
    """The same at the bounds: 80 rooms, 80 links, 14 marks."""
    lists = [[1], LENGTHS, [LONGEST, LONGEST - 7, 1], list(range(1, 90, 2)), [0]]
    for seed, (many, links, count) in enumerate([
        (80, 79, 14), (80, 80, 14), (80, 80, 0), (60, 80, 14), (41, 80, 12), (14, 80, 14), (15, 80, 14), (2, 80, 2),
        (30, 80, 14), (24, 80, 14), (1, 80, 0),
    ]):
        for lengths in [lists[seed % 5], lists[(seed + 3) % 5]]:
            yield many, hanging(seed, many, links, lengths), some_marks(seed, many, count)


def length_of(links, used):
    return sum(length for number, (one, two, length) in enumerate(links) if down(used, number))


def ends_odd(many, links, used):
    """The mask of the rooms at which an odd number of ends of the links stand, told without the program."""
    ends = [end for number, link in enumerate(links) if down(used, number) for end in link[:2]]
    return sum(2 ** room for room in range(many) if ends.count(room) % 2)


def least_costs(many, links):
    """For each mask of marks that can be joined what a cheapest joining costs: all sets of links are gone through."""
    least = {}
    for used in range(2 ** len(links)):
        marks, cost = ends_odd(many, links, used), length_of(links, used)
        least[marks] = min(cost, least.get(marks, cost))
    return least


def rooms_between(web, one, two):
    """The numbers of ties over which one comes from a round to another one; told without the program's fares."""
    via, row = {one: None}, [one]
    for here in row:
        for number, (left, right) in enumerate(web.sides):
            for there in (left, right):
                if here in (left, right) and there not in via:
                    via[there] = (number, here)
                    row.append(there)
    found = []
    while via[two] is not None:
        number, two = via[two]
        found.append(number)
    return found


def with_odd(web, seed, count, strengths=STRENGTHS):
    """The same places and turns, with just `count` odd rounds; kinds and strengths taken anyhow."""
    dice = Dice(4000 + seed)
    pushing = [0] * len(web.ties)
    chosen = dice.mixed(range(len(web.rounds)))[:count]
    for one, two in zip(chosen[::2], chosen[1::2]):
        for number in rooms_between(web, one, two):
            pushing[number] ^= 1
    for place in range(web.many):
        # A place whose ties all change their kinds leaves the odd rounds as they are.
        if dice.under(2):
            for number in web.turns[place]:
                pushing[number] ^= 1
    ties = [
        (Push if push else Pull)(tie.one, tie.two, dice.one_of(strengths)) for push, tie in zip(pushing, web.ties)
    ]
    return Web(web.many, ties, web.turns)


def triangles(many):
    """A flat web of `many` places whose rounds all have three darts, grown by parting a round from within."""
    ends, turns = [(0, 1), (1, 2), (2, 0)], [[0, 2], [1, 0], [2, 1]]
    for place in range(3, many):
        row = [corner for corner in corners(ends, turns)][place * 5 % (2 * place - 4)]
        turns.append([])
        for there, spot in row:
            turns[there].insert(spot, len(ends))
            turns[place].insert(0, len(ends))
            ends.append((there, place))
    return ties_of(ends), turns


def tried_webs(count=120, most_places=7):
    """Small webs whose layings can all be gone through, with strengths of several kinds."""
    lists = [[1], [0, 1], STRENGTHS, [1, 2, 3], [5, 6, 7, 11], [0, GREATEST]]
    for seed in range(count):
        many = 2 + seed % (most_places - 1)
        yield grown(7000 + seed, many, many - 1 + seed // 5 % 9, lists[seed % 11 % 6])


def bound_webs(count, strengths=STRENGTHS):
    """Webs at the bounds, each with just `count` odd rounds."""
    for seed, web in enumerate([*great_webs(), Web(28, *triangles(28))]):
        if count <= len(web.rounds):
            yield with_odd(web, seed, count, strengths)


def all_costs(web):
    """The worth of each laying, in the order of the masks, told without the program."""
    return [cost_of(web, laying) for laying in range(2 ** web.many)]


def odd_ones(web):
    """The numbers of the odd rounds, told without the program."""
    return [
        number for number, row in enumerate(web.rounds)
        if sum(isinstance(web.ties[dart // 2], Push) for dart in row) % 2
    ]


def broken(web, laying, paper):
    """The letters of the sentences of 5.6, as 6.2 takes them, that don't hold; (a) holds for every laying."""
    letters = ""
    odd = sum(2 ** number for number in odd_ones(web))
    for rounds, price in paper:
        fits = 0 <= rounds < 2 ** len(web.rounds) and price >= 1
        if "b" not in letters and not (fits and bin(rounds & odd).count("1") % 2):
            letters += "b"
    for tie, (left, right) in zip(web.ties, web.sides):
        paid = sum(price for rounds, price in paper if (rounds >> left & 1) != (rounds >> right & 1))
        if "c" not in letters and paid > 2 * tie.strength:
            letters += "c"
    if sum(price for rounds, price in paper) != 2 * cost_of(web, laying):
        letters += "d"
    return letters


def triangle(first=3, second=4, third=5):
    """Both its rounds are odd: one of its ties is always unpleased."""
    return Web(3, [Pull(0, 1, first), Pull(1, 2, second), Push(0, 2, third)], [[0, 2], [0, 1], [1, 2]])


def is_number(value):
    return type(value) is int


def is_pair(value):
    return type(value) is tuple and len(value) == 2 and all(is_number(each) for each in value)


def star(leaves, strength=1):
    """A place with ties to all others; its number is the last one."""
    ties = [(Push if i % 2 else Pull)(i, leaves, strength) for i in range(leaves)]
    return Web(leaves + 1, ties, [[i] for i in range(leaves)] + [list(range(leaves))])


def refusal(ask, *asked):
    """The class with which a question is refused, or None."""
    try:
        ask(*asked)
    except FloorError as refused:
        return type(refused)
    return None


SIGNED = [0, 0, 1, 1, -1, -1, 2, -2, 3, -5, GREATEST, -GREATEST]


def patterns(count=80, strengths=SIGNED):
    """Patterns of one to three rows and one to six columns."""
    for seed in range(count):
        dice = Dice(5000 + seed)
        rows, length = 1 + seed % 3, 1 + seed // 3 % 6
        yield [
            ([dice.one_of(strengths) for r in range(rows - 1)], [dice.one_of(strengths) for r in range(rows)])
            for column in range(length)
        ]


def paid(signed, unlike):
    """What a tie of a signed strength pays."""
    if unlike:
        return signed if signed > 0 else 0
    return -signed if signed < 0 else 0


def strip_cost(pattern, signs):
    """The worth of a strip whose columns have these signs."""
    cost = 0
    for column, mask in enumerate(signs):
        across, along = pattern[column % len(pattern)]
        cost += sum(paid(signed, (mask >> r & 1) != (mask >> r + 1 & 1)) for r, signed in enumerate(across))
        if column + 1 < len(signs):
            then = signs[column + 1]
            cost += sum(paid(signed, (mask >> r & 1) != (then >> r & 1)) for r, signed in enumerate(along))
    return cost


def strip_costs(pattern, columns):
    rows = len(pattern[0][1])
    return [strip_cost(pattern, signs) for signs in itertools.product(range(2 ** rows), repeat=columns)]


def wrong_patterns():
    """Each wrong in one way alone, or by little."""
    right = ([1, 2], [3, 4, 5])
    return [
        [], [right] * 7, [right] * 12, [([], [])], [([], []), ([], [])], [([1, 2, 3], [1, 2, 3, 4])],
        [([], [1, 2])], [([1], [1])], [([1], [1, 2, 3])], [([1, 2, 3], [1, 2, 3])], [([1, 2], [1, 2])],
        [right, ([1], [1, 2])], [([], [1]), ([1], [1, 2])], [right] * 5 + [([], [1])], [right, ([1], [3, 4, 5])],
        [right, ([1, 2, 3], [3, 4, 5])], [([1, 2, 3], [1, 2, 3, 4])] * 6, [right, ([], [])], [([], []), right],
        [([1], [])], [([1], [1, 2]), ([], [1])], [right, ([1, 2], [1, 2])], [right, ([1, 2], [1, 2, 3, 4])],
        [([1, 2], [1, 2]), right], [right, ([1, 2], [])], [([1], [1, 2]), ([1], [1, 2, 3])],
    ]
