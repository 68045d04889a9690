"""Tables of lows and manys joined with one another, and their powers."""

from spinfloor.tables import counted_together


def joined_row(row, table, modulus):
    found = []
    for then in range(len(table)):
        ways = [(entry[0] + on[then][0], entry[1] * on[then][1]) for entry, on in zip(row, table)]
        best = counted_together(ways)
        found.append((best[0], best[1] % modulus))
    return found


def tables_joined(one, two, modulus):
    return [joined_row(row, two, modulus) for row in one]


def row_by_modulus(row, modulus):
    return [(low, many % modulus) for low, many in row]


def table_power(table, times, modulus):
    # By powers doubled again and again: a table joined with its powers is the same in whatever order.
    doubled = [row_by_modulus(row, modulus) for row in table]
    power = None
    left = times
    while left > 0:
        if left % 2 == 1:
            power = doubled if power is None else tables_joined(power, doubled, modulus)
        left = left // 2
        if left > 0:
            doubled = tables_joined(doubled, doubled, modulus)
    return power
