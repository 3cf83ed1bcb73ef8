"""Rows put together, each told as its shortest row."""

from nextbyrule.errors import TooFar, TooLong
from nextbyrule.numbers import taken
from nextbyrule.polys import of_rule, rule_of, times
from nextbyrule.powers import power_sums, rule_of_sums
from nextbyrule.rows import LONGEST, first_places, shared_by
from nextbyrule.shortest import shortest

FARTHEST_START = 100
WIDEST_STEP = 10


def refuse_long(length):
    if length > LONGEST:
        raise TooLong("rows put together are told up to the length 12")


def refuse_far_steps(start, step):
    if start < 0 or start > FARTHEST_START or step < 1 or step > WIDEST_STEP:
        raise TooFar("a start is from 0 to 100, a step from 1 to 10")


def told_row(by, rule, starts):
    rule_taken = tuple([taken(by, number) for number in rule])
    starts_taken = tuple([taken(by, number) for number in starts])
    return shortest((by, rule_taken, starts_taken))


def sum_place(ours, theirs, n):
    return ours[n] + theirs[n]


def product_place(ours, theirs, n):
    return ours[n] * theirs[n]


def rolled_place(ours, theirs, n):
    return sum([ours[i] * theirs[n - i] for i in range(n + 1)])


def pair_row(one, other, rule, pair_place):
    length = len(rule)
    ours = first_places(one, length)
    theirs = first_places(other, length)
    return told_row(one[0], rule, [pair_place(ours, theirs, n) for n in range(length)])


def joint_row(one, other, pair_place):
    # The product of both polynomials keeps the sum of the rows, and the rolled row too.
    by = shared_by(one, other)
    ours = shortest(one)
    theirs = shortest(other)
    refuse_long(len(ours[1]) + len(theirs[1]))
    poly = times(by, of_rule(by, ours[1]), of_rule(by, theirs[1]))
    return pair_row(ours, theirs, rule_of(by, poly), pair_place)


def added(one, other):
    return joint_row(one, other, sum_place)


def rolled(one, other):
    return joint_row(one, other, rolled_place)


def multiplied(one, other):
    # The product is kept by the polynomial whose roots are the products of a root of the one and a root of the other:
    # the sums of their powers are the products of the sums. By a prime, what comes of it by 0 is taken by it.
    shared_by(one, other)
    ours = shortest(one)
    theirs = shortest(other)
    length = len(ours[1]) * len(theirs[1])
    refuse_long(length)
    our_sums = power_sums(ours[1], length)
    their_sums = power_sums(theirs[1], length)
    rule = rule_of_sums([our_sums[k] * their_sums[k] for k in range(length)])
    return pair_row(ours, theirs, rule, product_place)


def scaled(row, number):
    return told_row(row[0], row[1], [number * start for start in row[2]])


def summed(row):
    # Each sum less the one before is a place of the row: so the polynomial times x - 1 keeps the sums.
    by = row[0]
    least = shortest(row)
    length = len(least[1]) + 1
    refuse_long(length)
    poly = times(by, of_rule(by, least[1]), (taken(by, -1), 1))
    found = first_places(least, length)
    return told_row(by, rule_of(by, poly), [sum(found[:n + 1]) for n in range(length)])


def every(row, start, step):
    # It is kept by the polynomial whose roots are the powers, as high as the step, of the roots of the row's own.
    refuse_far_steps(start, step)
    least = shortest(row)
    length = len(least[1])
    sums = power_sums(least[1], step * length)
    found = first_places(least, start + step * length)
    rule = rule_of_sums([sums[step * k - 1] for k in range(1, length + 1)])
    return told_row(row[0], rule, [found[start + step * k] for k in range(length)])


def put_ahead(row, numbers):
    least = shortest(row)
    refuse_long(len(least[1]) + len(numbers))
    rule = list(least[1]) + [0] * len(numbers)
    return told_row(row[0], rule, list(numbers) + list(least[2]))
