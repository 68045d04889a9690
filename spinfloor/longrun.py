"""What a pattern costs in the long run for each repeat, with a loop and slopes that show it."""

from spinfloor.strips import step_table


def lows_of(table):
    found = []
    for row in table:
        found.append([entry[0] for entry in row])
    return found


def least_to(ahead, lows, then):
    return min([so_far + row[then] for so_far, row in zip(ahead, lows)])


def one_step_on(ahead, lows):
    return [least_to(ahead, lows, then) for then in range(len(lows))]


# The least sums of lows from the start to each signs, by one step, by two, and on to as many as there are signs.
def sums_from(lows, start):
    sums = [list(lows[start])]
    while len(sums) < len(lows):
        sums.append(one_step_on(sums[-1], lows))
    return sums


# The sum, the number of steps and the start of a walk that comes back to its start with the least average. Of several
# it has the fewest steps: so it comes to no signs twice, else a part of it would be a shorter one.
def cheapest_walk(sums):
    best = None
    for steps in range(1, len(sums) + 1):
        for start, told in enumerate(sums):
            total = told[steps - 1][start]
            if best is None or total * best[1] < best[0] * steps:
                best = (total, steps, start)
    return best


def loop_back(lows, told, start, steps):
    loop = []
    then = start
    step = steps - 1
    while step > 0:
        ways = [signs for signs, low in enumerate(told[step - 1]) if low + lows[signs][then] == told[step][then]]
        then = ways[0]
        loop.append(then)
        step = step - 1
    loop.append(start)
    return list(reversed(loop))


def common_divisor(one, two):
    greater = one
    lesser = two
    while lesser != 0:
        rest = greater % lesser
        greater = lesser
        lesser = rest
    return greater


# With each low less the average no loop is below nought: so the least sums with which the signs are come to, from
# whatever signs, don't fall any more behind as many steps as there are signs.
def slopes_of(lows, top, bottom):
    lessened = []
    for row in lows:
        lessened.append([bottom * low - top for low in row])
    slopes = [0 for signs in lows]
    for step in range(len(lows)):
        slopes = [min(pair) for pair in zip(slopes, one_step_on(slopes, lessened))]
    return slopes


def long_run_of(lows):
    sums = [sums_from(lows, start) for start in range(len(lows))]
    best = cheapest_walk(sums)
    divisor = common_divisor(abs(best[0]), best[1])
    top = best[0] // divisor
    bottom = best[1] // divisor
    return (top, bottom, loop_back(lows, sums[best[2]], best[2], best[1]), slopes_of(lows, top, bottom))


def long_run(pattern):
    return long_run_of(lows_of(step_table(pattern)))
