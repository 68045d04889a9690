"""Sets of numbers told as masks: bit k is there just where number k is in the set."""


def bits(mask):
    numbers = []
    number = 0
    rest = mask
    while rest > 0:
        if rest % 2 == 1:
            numbers.append(number)
        rest = rest // 2
        number = number + 1
    return numbers


def ones(mask):
    return len(bits(mask))


def odd(mask):
    return ones(mask) % 2


def mask_of(places):
    mask = 0
    for place in places:
        # Not a sum: a number that is told twice counts once.
        mask = mask | (1 << place)
    return mask
