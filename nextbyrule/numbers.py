"""Bys, and the numbers by a by: all whole numbers by 0, the rests by a prime."""

from nextbyrule.errors import NoNumber

ABOVE_ALL_BYS = 1000


def is_whole(thing):
    # To Python a truth is an int, so it is turned away by name.
    return isinstance(thing, int) and not isinstance(thing, bool)


def is_prime(number):
    if number < 2:
        return False
    divisor = 2
    while divisor * divisor <= number:
        if number % divisor == 0:
            return False
        divisor = divisor + 1
    return True


def is_by(thing):
    # The bound comes first: divisors of a number of many figures would be sought for ever.
    if not is_whole(thing) or thing >= ABOVE_ALL_BYS:
        return False
    return thing == 0 or is_prime(thing)


def is_number(by, thing):
    if not is_whole(thing):
        return False
    return by == 0 or 0 <= thing < by


def taken(by, number):
    if by == 0:
        return number
    return number % by


def inverse(prime, number):
    # By a prime, a number that isn't 0, to the power prime - 1, is 1: so the power prime - 2 is its inverse.
    power = 1
    square = number
    left = prime - 2
    while left > 0:
        if left % 2 == 1:
            power = taken(prime, power * square)
        square = taken(prime, square * square)
        left = left // 2
    return power


def over(by, one, other):
    if by == 0:
        raise NoNumber("by 0 there is no one over another")
    if taken(by, other) == 0:
        raise NoNumber("there is nothing over 0")
    return taken(by, one * inverse(by, other))
