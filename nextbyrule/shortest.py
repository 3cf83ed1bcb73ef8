"""The shortest row of a row, and the table of a row's places."""

from nextbyrule.numbers import taken
from nextbyrule.polys import divided, of_rule, rule_of, trimmed
from nextbyrule.rows import first_places
from nextbyrule.wholes import shared_divisor


def top_of(row, poly):
    # The sum, over all n, of what the row has at n over x ** (n + 1) is this polynomial over that of the rule.
    by = row[0]
    starts = row[2]
    top = []
    for k in range(len(starts)):
        parts = [poly[j] * starts[j - 1 - k] for j in range(k + 1, len(poly))]
        top.append(taken(by, sum(parts)))
    return trimmed(top)


def least_of(row):
    # A polynomial keeps the row just where its product with the top is divided by the polynomial of the rule:
    # so the least is what stands below when the fraction of the two is shortened.
    by = row[0]
    poly = of_rule(by, row[1])
    top = top_of(row, poly)
    return divided(by, poly, shared_divisor(by, poly, top))[0]


def shortest(row):
    least = least_of(row)
    rule = rule_of(row[0], least)
    return (row[0], rule, tuple(row[2][:len(rule)]))


def table_of(row, size):
    found = first_places(row, 2 * size)
    return [found[i:i + size] for i in range(size)]
