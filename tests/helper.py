"""What several test files need."""

import itertools
import random

from nextbyrule import errors
from nextbyrule.tables import determinant

REFUSALS = [
    errors.NoNumber, errors.NoBy, errors.NoText, errors.TooFar,
    errors.TooLong, errors.TooBig, errors.NoRow, errors.NoName,
]

# Things that are no whole numbers; 2.0 and the like are equal to some, but no ints.
NO_WHOLE_NUMBERS = [
    True, False, None, "", "0", "2", "seven", [], [2], (), (2,), {}, {2: 2}, {2}, 0.0, 2.0, 2 + 0j, b"2", object(), int,
]

PRIMES = [p for p in range(2, 1000) if all(p % d != 0 for d in range(2, p))]

BYS = [0, 2, 3, 7, 101, 997]

FIBONACCI = (0, (1, 1), (0, 1))


def assert_refused(case, refusal, call, *things):
    """The call is refused with just this class, and with no other refusal's."""
    with case.assertRaises(ValueError) as caught:
        call(*things)
    case.assertIsInstance(caught.exception, errors.RuleError)
    held = [one for one in REFUSALS if isinstance(caught.exception, one)]
    case.assertEqual(held, [refusal])


def some_numbers(chance, by, count, great=10 ** 6):
    """Numbers by chance; by a prime its rests, by 0 of either sign."""
    low, high = (-great, great) if by == 0 else (0, by - 1)
    return [chance.randint(low, high) for turn in range(count)]


def some_row(chance, by, length, great=10 ** 6):
    rule = tuple(some_numbers(chance, by, length, great))
    return (by, rule, tuple(some_numbers(chance, by, length, great)))


def some_rows():
    """Rows by each by and of each length."""
    chance = random.Random(5)
    return [some_row(chance, by, length) for by in BYS for length in range(13)]


def small_rows(by, lengths):
    """All rows by a prime of these lengths."""
    return [(by, rule, starts) for length in lengths for rule in itertools.product(range(by), repeat=length)
            for starts in itertools.product(range(by), repeat=length)]


def rest(by, number):
    return number % by if by else number


def step_by_step(row, count):
    """The places by the words of the document, with nothing of the program in it."""
    by, rule, starts = row
    found = {}
    for n in range(count):
        if n < len(starts):
            found[n] = starts[n]
        else:
            found[n] = rest(by, sum(factor * found[n - 1 - k] for k, factor in enumerate(rule)))
    return [found[n] for n in range(count)]


def product(by, one, other):
    """The product of two polynomials, number by number, with nothing of the program in it."""
    numbers = []
    for place in range(len(one) + len(other) - 1 if one and other else 0):
        pairs = [(i, place - i) for i in range(len(one)) if 0 <= place - i < len(other)]
        numbers.append(rest(by, sum(one[i] * other[k] for i, k in pairs)))
    return tuple(numbers)


def some_monic(chance, by, degree, great=10 ** 3):
    return tuple(some_numbers(chance, by, degree, great) + [1])


def poly_of(row):
    return tuple(rest(row[0], -number) for number in reversed(row[1])) + (1,)


def rule_of_poly(by, poly):
    return tuple(rest(by, -number) for number in reversed(poly[:-1]))


def lengthened(row, factor):
    """The row's places by a longer rule, whose polynomial is that of the row's rule times the factor."""
    by = row[0]
    rule = rule_of_poly(by, product(by, poly_of(row), factor))
    return (by, rule, tuple(step_by_step(row, len(rule))))


def is_shortest(row):
    """Told by the table of the row's own length: its determinant, reckoned apart from what is tested, isn't 0."""
    by, length = row[0], len(row[1])
    found = step_by_step(row, 2 * length)
    table = [found[i:i + length] for i in range(length)]
    # What isn't 0 by a prime isn't 0, and numbers of many figures are sooner done by a prime.
    if by == 0 and determinant(1000003, [[number % 1000003 for number in line] for line in table]) != 0:
        return True
    return determinant(by, table) != 0


def shortest_by_chance(chance, by, length, great=20):
    """A row whose rule is as short as it can be."""
    row = some_row(chance, by, length, great)
    while not is_shortest(row):
        row = some_row(chance, by, length, great)
    return row


def form_at(parts, n):
    """What the parts of a closed form give at n: the bottom times what its row has there."""
    return sum(root ** n * sum(top * n ** j for j, top in enumerate(tops)) for root, tops in parts)
