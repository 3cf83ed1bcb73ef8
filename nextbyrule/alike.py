"""Rows alike: where two rows part, and the least polynomial that keeps both."""

from nextbyrule.polys import divided, times
from nextbyrule.rows import first_places, shared_by
from nextbyrule.shortest import least_of
from nextbyrule.wholes import shared_divisor


def parting(one, other):
    # The differences make a row by a rule as long as both rules together: where its first places, as many, are 0,
    # all are.
    shared_by(one, other)
    count = len(one[1]) + len(other[1])
    ours = first_places(one, count)
    theirs = first_places(other, count)
    for n in range(count):
        if ours[n] != theirs[n]:
            return n
    return None


def common(one, other):
    # What keeps a row is a multiple of its least polynomial: so the least multiple of both is sought.
    by = shared_by(one, other)
    ours = least_of(one)
    theirs = least_of(other)
    shared = shared_divisor(by, ours, theirs)
    return times(by, ours, divided(by, theirs, shared)[0])
