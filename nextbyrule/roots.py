"""Closed forms: the whole roots of a polynomial, and the places of a row told by powers of roots."""

from nextbyrule.errors import TooBig
from nextbyrule.polys import divided
from nextbyrule.rows import refuse_prime
from nextbyrule.shortest import least_of
from nextbyrule.tables import solved

ABOVE_ALL_NUMBERS = 1000000


def refuse_big(poly):
    if any([abs(number) >= ABOVE_ALL_NUMBERS for number in poly]):
        raise TooBig("whole roots are told where all numbers are below 10 ** 6")


def whole_divisors(number):
    # Each divisor above the square root stands beside one below it, so the walk ends there.
    small = []
    great = []
    tried = 1
    while tried * tried <= number:
        if number % tried == 0:
            small.append(tried)
            if tried * tried < number:
                great.append(number // tried)
        tried = tried + 1
    return small + list(reversed(great))


def perhaps_roots(poly):
    # A whole root other than 0 divides the lowest number that isn't 0, as it divides all that stands above it.
    low = [number for number in poly if number != 0][0]
    above = whole_divisors(abs(low))
    below = [0 - divisor for divisor in reversed(above)]
    return below + [0] + above


def divided_out(poly, root):
    often = 0
    left = poly
    tried = divided(0, left, (0 - root, 1))
    while tried[1] == ():
        often = often + 1
        left = tried[0]
        tried = divided(0, left, (0 - root, 1))
    return (often, left)


def whole_roots(poly):
    refuse_big(poly)
    roots = []
    left = poly
    for root in perhaps_roots(poly):
        found = divided_out(left, root)
        if found[0] > 0:
            roots.append((root, found[0]))
            left = found[1]
    return (roots, left)


def power(number, exponent):
    product = 1
    for turn in range(exponent):
        product = product * number
    return product


def form_line(roots, n):
    # The tops of all roots stand one behind another, so that a single table is to be solved for them.
    line = []
    for pair in roots:
        line.extend([power(pair[0], n) * power(n, j) for j in range(pair[1])])
    return line


def parts_of(roots, tops):
    parts = []
    begin = 0
    for pair in roots:
        end = begin + pair[1]
        parts.append((pair[0], tops[begin:end]))
        begin = end
    return parts


def closed(row):
    refuse_prime(row)
    found = whole_roots(least_of(row))
    roots = found[0]
    if found[1] != (1,) or any([pair[0] == 0 for pair in roots]):
        return None
    # The form and the row are kept by the same polynomial: where they agree at the first places, they do at all.
    # As there are as many tops as such places, and no two forms are alike, there is just one.
    length = sum([pair[1] for pair in roots])
    table = [form_line(roots, n) for n in range(length)]
    answer = solved(0, length, table, list(row[2][:length]))
    return (answer[1], parts_of(roots, answer[2]))
