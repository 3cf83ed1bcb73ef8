"""Rules for known places: the shortest ones that fit them, and papers that show why none is shorter."""

from nextbyrule.tables import solution, solved


def lines_of(known, size):
    lines = []
    for n in range(size, len(known)):
        lines.append([known[n - 1 - k] for k in range(size)])
    return lines


def fit(by, known, size):
    return solution(by, size, lines_of(known, size), known[size:])


def fitted(by, known):
    # A fit with a 0 behind it fits as one of the next size: so the least size is found by halving. And where there
    # is a lesser fit there are many of a size; one alone is the least.
    low = 0
    high = len(known)
    found = fit(by, known, high)
    while low < high and found[0] == "many":
        middle = (low + high) // 2
        tried = fit(by, known, middle)
        if tried is None:
            low = middle + 1
        else:
            high = middle
            found = tried
    return found


def paper_of(by, known, size):
    found = solved(by, size, lines_of(known, size), known[size:])
    return found[1] if found[0] == "none" else None
