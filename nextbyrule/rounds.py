"""Rounds by rests: where a row by a prime comes round, and all the places of a number in it."""

from nextbyrule.errors import NoBy, TooLong
from nextbyrule.rows import first_places, next_place
from nextbyrule.shortest import shortest

MOST_WINDOWS = 4096


def refuse_wide(prime, length):
    # There are as many windows as the prime to the power of the length: so many steps a round may take.
    windows = 1
    for turn in range(length):
        windows = windows * prime
    if windows > MOST_WINDOWS:
        raise TooLong("rounds are told of rows with at most 4096 windows")


def round_row(row):
    if row[0] == 0:
        raise NoBy("by 0 there are no rounds")
    least = shortest(row)
    refuse_wide(row[0], len(least[1]))
    return least


def came_round(row):
    # What comes behind a window hangs on the window alone: so the row goes round from the first one seen again.
    by = row[0]
    rule = row[1]
    window = row[2]
    seen = {}
    while window not in seen:
        seen[window] = len(seen)
        window = (window + (next_place(by, rule, window),))[1:]
    begin = seen[window]
    return (begin, len(seen) - begin)


def round_of(row):
    return came_round(round_row(row))


def where(row, number):
    least = round_row(row)
    found = came_round(least)
    begin = found[0]
    length = found[1]
    numbers = first_places(least, begin + length)
    early = [n for n in range(begin) if numbers[n] == number]
    starts = [n for n in range(begin, begin + length) if numbers[n] == number]
    return (early, starts, length)
