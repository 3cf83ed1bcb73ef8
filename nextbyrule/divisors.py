"""Divisors: what divides all places of a row by 0, what doesn't, and the row taken by a prime."""

from nextbyrule.errors import TooFar
from nextbyrule.mixes import refuse_far_steps
from nextbyrule.numbers import taken
from nextbyrule.rows import first_places, refuse_prime
from nextbyrule.tables import common_divisor


def rest_row(row, divisor):
    # The rests of the places by a divisor, prime or not, go by the rests of the rule.
    rule = tuple([taken(divisor, number) for number in row[1]])
    starts = tuple([taken(divisor, number) for number in row[2]])
    return (divisor, rule, starts)


def divisor_of(row):
    # Each place is a sum of multiples of the starts: what divides these divides all.
    refuse_prime(row)
    divisor = 0
    for start in row[2]:
        divisor = common_divisor(divisor, start)
    return divisor


def undivided(row, divisor, start, step):
    # The places so far apart make a row by a rule as long as the row's own: where the divisor divides the first ones,
    # as many as the length, it divides all.
    refuse_prime(row)
    refuse_far_steps(start, step)
    if divisor < 1:
        raise TooFar("a divisor is from 1 on")
    length = len(row[1])
    rests = first_places(rest_row(row, divisor), start + step * length)
    for k in range(length):
        if rests[start + step * k] != 0:
            return k
    return None


def by_prime(row, prime):
    refuse_prime(row)
    return rest_row(row, prime)
