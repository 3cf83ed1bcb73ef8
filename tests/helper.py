"""What several test files need."""

from nextbyrule import errors

REFUSALS = [
    errors.NoNumber, errors.NoBy, errors.NoText, errors.TooFar,
    errors.TooLong, errors.TooBig, errors.NoRow, errors.NoName,
]

# Things that are no whole numbers; 2.0 and the like are equal to some, but no ints.
NO_WHOLE_NUMBERS = [
    True, False, None, "", "0", "2", "seven", [], [2], (), (2,), {}, {2: 2}, {2}, 0.0, 2.0, 2 + 0j, b"2", object(), int,
]

PRIMES = [p for p in range(2, 1000) if all(p % d != 0 for d in range(2, p))]


def assert_refused(case, refusal, call, *things):
    """The call is refused with just this class, and with no other refusal's."""
    with case.assertRaises(ValueError) as caught:
        call(*things)
    case.assertIsInstance(caught.exception, errors.RuleError)
    held = [one for one in REFUSALS if isinstance(caught.exception, one)]
    case.assertEqual(held, [refusal])
