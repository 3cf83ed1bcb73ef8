"""Polynomials by a by: tuples of numbers, the one at k standing before x to the power k, the last one not 0."""

from nextbyrule.numbers import over, taken
from nextbyrule.rows import first_places


def trimmed(numbers):
    end = len(numbers)
    while end > 0 and numbers[end - 1] == 0:
        end = end - 1
    return tuple(numbers[:end])


def number_at(poly, k):
    return poly[k] if k < len(poly) else 0


def plus(by, one, other):
    wide = max(len(one), len(other))
    return trimmed([taken(by, number_at(one, k) + number_at(other, k)) for k in range(wide)])


def times(by, one, other):
    total = [0] * (len(one) + len(other))
    for i in range(len(one)):
        for k in range(len(other)):
            total[i + k] = taken(by, total[i + k] + one[i] * other[k])
    return trimmed(total)


def divided(by, one, other):
    # The other one is monic, so each number of how often is just what stands highest: nothing need be divided.
    top = len(other) - 1
    often = [0] * max(0, len(one) - top)
    left = list(one)
    for shift in range(len(often) - 1, -1, -1):
        factor = left[shift + top]
        often[shift] = factor
        for k in range(len(other)):
            left[shift + k] = taken(by, left[shift + k] - factor * other[k])
    return (trimmed(often), trimmed(left))


def monic(prime, poly):
    if len(poly) == 0:
        return ()
    last = poly[len(poly) - 1]
    return tuple([over(prime, number, last) for number in poly])


def greatest(by, one, other):
    # What divides both divides what is left of the one by the other, too; so the pair shrinks until nothing is left.
    great = monic(by, one)
    small = monic(by, other)
    while len(small) > 0:
        left = divided(by, great, small)[1]
        great = small
        small = monic(by, left)
    return great


def of_rule(by, rule):
    length = len(rule)
    numbers = [taken(by, 0 - rule[length - 1 - k]) for k in range(length)]
    return tuple(numbers + [1])


def rule_of(by, poly):
    length = len(poly) - 1
    return tuple([taken(by, 0 - poly[length - 1 - k]) for k in range(length)])


def sum_at(by, poly, found, n):
    return taken(by, sum([poly[k] * found[n + k] for k in range(len(poly))]))


def keeps(row, poly):
    # These sums make a row by the same rule: where its first ones, as many as the length, are 0, all are.
    by = row[0]
    length = len(row[1])
    found = first_places(row, length + len(poly))
    return all([sum_at(by, poly, found, n) == 0 for n in range(length)])
