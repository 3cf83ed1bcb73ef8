"""By 0, the greatest monic polynomial that divides two: found through what it is by primes, one after another.

By fractions the numbers would grow with each step; by a prime they don't, however many figures are handed in.
"""

from nextbyrule.numbers import is_prime, over, taken
from nextbyrule.polys import divided, greatest, trimmed

# Greater primes tell more figures each, smaller ones are sooner found.
BELOW_THE_PRIMES = 1000000


def prime_above(number):
    found = number + 1
    while not is_prime(found):
        found = found + 1
    return found


def divides(monic_one, poly):
    return divided(0, poly, monic_one)[1] == ()


def taken_poly(prime, poly):
    return trimmed([taken(prime, number) for number in poly])


def nearest(modulus, number):
    # Of the numbers with this rest the one nearest to 0, as those sought may be below 0.
    rest = number % modulus
    return rest - modulus if 2 * rest > modulus else rest


def joined(modulus, number, prime, rest):
    # The number by modulus * prime that is as told by the modulus and by the prime.
    more = over(prime, taken(prime, rest - number), taken(prime, modulus))
    return nearest(modulus * prime, number + modulus * more)


def whole_greatest(one, other):
    # The one is monic, so what is sought has whole numbers. By no prime it gets shorter, and by all but some few it
    # stays as long as it is: a shorter one found puts the longer ones aside. One that divides both ends the search;
    # as long numbers divide slowly, one is tried when it is new or when one more prime has left it as it was.
    told = one
    modulus = 1
    prime = BELOW_THE_PRIMES
    ripe = True
    while not ripe or not divides(told, one) or not divides(told, other):
        prime = prime_above(prime)
        seen = greatest(prime, taken_poly(prime, one), taken_poly(prime, other))
        if len(seen) < len(told):
            told = tuple([nearest(prime, rest) for rest in seen])
            modulus = prime
            ripe = True
        elif len(seen) == len(told):
            before = told
            told = tuple([joined(modulus, before[k], prime, seen[k]) for k in range(len(seen))])
            modulus = modulus * prime
            ripe = told == before
    return told


def shared_divisor(by, one, other):
    # The greatest monic polynomial that divides both, by whatever by; the one is monic.
    return whole_greatest(one, other) if by == 0 else greatest(by, one, other)
