"""What several test files need."""

import random

from nextbyrule import errors

REFUSALS = [
    errors.NoNumber, errors.NoBy, errors.NoText, errors.TooFar,
    errors.TooLong, errors.TooBig, errors.NoRow, errors.NoName,
]

# Things that are no whole numbers; 2.0 and the like are equal to some, but no ints.
NO_WHOLE_NUMBERS = [
    True, False, None, "", "0", "2", "seven", [], [2], (), (2,), {}, {2: 2}, {2}, 0.0, 2.0, 2 + 0j, b"2", object(), int,
]

PRIMES = [p for p in range(2, 1000) if all(p % d != 0 for d in range(2, p))]

BYS = [0, 2, 3, 7, 101, 997]

FIBONACCI = (0, (1, 1), (0, 1))


def assert_refused(case, refusal, call, *things):
    """The call is refused with just this class, and with no other refusal's."""
    with case.assertRaises(ValueError) as caught:
        call(*things)
    case.assertIsInstance(caught.exception, errors.RuleError)
    held = [one for one in REFUSALS if isinstance(caught.exception, one)]
    case.assertEqual(held, [refusal])


def some_numbers(chance, by, count, great=10 ** 6):
    """Numbers by chance; by a prime its rests, by 0 of either sign."""
    low, high = (-great, great) if by == 0 else (0, by - 1)
    return [chance.randint(low, high) for turn in range(count)]


def some_row(chance, by, length, great=10 ** 6):
    rule = tuple(some_numbers(chance, by, length, great))
    return (by, rule, tuple(some_numbers(chance, by, length, great)))


def some_rows():
    """Rows by each by and of each length."""
    chance = random.Random(5)
    return [some_row(chance, by, length) for by in BYS for length in range(13)]


def rest(by, number):
    return number % by if by else number


def step_by_step(row, count):
    """The places by the words of the document, with nothing of the program in it."""
    by, rule, starts = row
    found = {}
    for n in range(count):
        if n < len(starts):
            found[n] = starts[n]
        else:
            found[n] = rest(by, sum(factor * found[n - 1 - k] for k, factor in enumerate(rule)))
    return [found[n] for n in range(count)]


def product(by, one, other):
    """The product of two polynomials, number by number, with nothing of the program in it."""
    numbers = []
    for place in range(len(one) + len(other) - 1 if one and other else 0):
        pairs = [(i, place - i) for i in range(len(one)) if 0 <= place - i < len(other)]
        numbers.append(rest(by, sum(one[i] * other[k] for i, k in pairs)))
    return tuple(numbers)


def some_monic(chance, by, degree, great=10 ** 3):
    return tuple(some_numbers(chance, by, degree, great) + [1])
