"""What can be come to from a number by pairs of numbers, each of which leads both ways."""


def reached(start, pairs):
    mask = 1 << start
    ahead = 0
    while mask != ahead:
        ahead = mask
        for one, two in pairs:
            ends = (1 << one) | (1 << two)
            if (mask & ends) != 0:
                mask = mask | ends
    return mask
