"""Sums of powers of the roots of a rule's polynomial, by 0: from a rule to them, and from them to a rule.

They tell the rule for products of roots, or for powers of them, without a root being known.
"""


def behind_first(rule, sums, k):
    # What Newton's rule for the sum of the k-th powers takes from the sums of lesser powers.
    reach = min(k - 1, len(rule))
    return sum([rule[i] * sums[k - 2 - i] for i in range(reach)])


def power_sums(rule, count):
    # At k - 1 stands the sum of the k-th powers.
    sums = []
    for k in range(1, count + 1):
        own = k * rule[k - 1] if k <= len(rule) else 0
        sums.append(own + behind_first(rule, sums, k))
    return sums


def rule_of_sums(sums):
    # The division leaves no rest, as there are whole numbers of which these are the sums.
    rule = []
    for k in range(1, len(sums) + 1):
        rule.append((sums[k - 1] - behind_first(rule, sums, k)) // k)
    return rule
