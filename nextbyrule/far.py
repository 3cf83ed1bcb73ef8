"""Far places: the jump to a place, what a row has there, and the row from there on."""

from nextbyrule.errors import TooFar
from nextbyrule.polys import divided, number_at, of_rule, sum_at, times
from nextbyrule.rows import first_places

# By 0 the numbers grow with each place; by a prime they don't, so there any place will do.
FARTHEST_BY_0 = 400


def refuse_far_jump(by, n):
    if n < 0 or (by == 0 and n > FARTHEST_BY_0):
        raise TooFar("a far place is from 0 on, by 0 up to 400")


def power_left(by, poly, n):
    # What is left of x ** n, divided by the monic poly: n is gone through by its binary figures from the highest on,
    # as each figure doubles what is reached and perhaps adds 1.
    left = divided(by, (1,), poly)[1]
    for figure in range(n.bit_length() - 1, -1, -1):
        doubled = times(by, left, left)
        if (n >> figure) % 2 == 1:
            doubled = times(by, doubled, (0, 1))
        left = divided(by, doubled, poly)[1]
    return left


def jump(row, n):
    by = row[0]
    rule = row[1]
    refuse_far_jump(by, n)
    left = power_left(by, of_rule(by, rule), n)
    return tuple([number_at(left, i) for i in range(len(rule))])


def place_at(row, n):
    return sum_at(row[0], jump(row, n), row[2], 0)


def onward(row, n):
    by = row[0]
    numbers = jump(row, n)
    near = first_places(row, 2 * len(numbers))
    starts = [sum_at(by, numbers, near, m) for m in range(len(numbers))]
    return (by, row[1], tuple(starts))
