"""Rows: tuples (by, rule, starts), and what they have at their first places."""

from nextbyrule.errors import NoBy, TooFar
from nextbyrule.numbers import is_by, is_number, taken

LONGEST = 12
FARTHEST = 300


def are_numbers(by, thing):
    # The length comes first, so that a long tuple isn't walked in vain.
    if not isinstance(thing, tuple) or len(thing) > LONGEST:
        return False
    return all([is_number(by, part) for part in thing])


def is_row(thing):
    if not isinstance(thing, tuple) or len(thing) != 3:
        return False
    by = thing[0]
    rule = thing[1]
    starts = thing[2]
    if not is_by(by) or not are_numbers(by, rule) or not are_numbers(by, starts):
        return False
    return len(rule) == len(starts)


def shared_by(one, other):
    if one[0] != other[0]:
        raise NoBy("the two rows are of unlike bys")
    return one[0]


def refuse_prime(row):
    if row[0] != 0:
        raise NoBy("this is told of rows by 0 alone")


def next_place(by, rule, before):
    total = 0
    for k in range(len(rule)):
        total = total + rule[k] * before[len(before) - 1 - k]
    return taken(by, total)


def first_places(row, count):
    # Without the bound of places, as a window at the farthest place reaches beyond it.
    by = row[0]
    rule = row[1]
    starts = row[2]
    found = list(starts[:count])
    while len(found) < count:
        found.append(next_place(by, rule, found))
    return found


def refuse_far(n):
    # The number stays out of the words: Python refuses to write one of too many figures.
    if n < 0 or n > FARTHEST:
        raise TooFar("a count or a place is from 0 to 300")


def places(row, count):
    refuse_far(count)
    return first_places(row, count)


def window(row, n):
    refuse_far(n)
    length = len(row[1])
    return tuple(first_places(row, n + length)[n:])
