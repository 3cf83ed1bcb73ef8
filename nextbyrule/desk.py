"""The desk: it keeps rows by names, is told rows of words, and answers each with a text."""

from nextbyrule.alike import parting
from nextbyrule.divisors import by_prime, divisor_of, undivided
from nextbyrule.errors import NoName, NoNumber, NoRow
from nextbyrule.far import onward, place_at
from nextbyrule.mixes import added, every, multiplied, put_ahead, rolled, scaled, summed
from nextbyrule.numbers import taken
from nextbyrule.roots import closed
from nextbyrule.rounds import round_of, where
from nextbyrule.rows import places, refuse_prime
from nextbyrule.shortest import shortest
from nextbyrule.texts import number_shown, read, read_number, read_prime, shown

NAME_SIGNS = "abcdefghijklmnopqrstuvwxyz0123456789"
LONGEST_NAME = 8
MOST_AHEAD = 12

# What stands behind each first word; of the numbers to put ahead there may be more than one.
FORMS = {
    "row": ("NEW", "TEXT"),
    "short": ("NEW", "A"),
    "add": ("NEW", "A", "A"),
    "multiply": ("NEW", "A", "A"),
    "roll": ("NEW", "A", "A"),
    "scale": ("NEW", "A", "NUMBER"),
    "sum": ("NEW", "A"),
    "every": ("NEW", "A", "NUMBER", "NUMBER"),
    "ahead": ("NEW", "A", "NUMBER"),
    "on": ("NEW", "A", "NUMBER"),
    "rest": ("NEW", "A", "BY"),
    "drop": ("A",),
    "show": ("A",),
    "places": ("A", "NUMBER"),
    "at": ("A", "NUMBER"),
    "part": ("A", "A"),
    "round": ("A",),
    "where": ("A", "NUMBER"),
    "closed": ("A",),
    "divisor": ("A",),
    "divides": ("A", "NUMBER", "NUMBER", "NUMBER"),
}


def words_of(text):
    if not isinstance(text, str):
        raise NoRow("a desk is told texts alone")
    words = text.split(" ")
    if words[0] == "row" and len(words) > 2:
        # A row's own text holds blanks, and is one word here.
        return words[:2] + [" ".join(words[2:])]
    return words


def kinds_of(words):
    if words[0] not in FORMS:
        raise NoRow("no row of words begins so")
    kinds = FORMS[words[0]]
    count = len(words) - 1
    if words[0] == "ahead" and len(kinds) < count < len(kinds) + MOST_AHEAD:
        kinds = kinds + ("NUMBER",) * (count - len(kinds))
    if count != len(kinds):
        raise NoRow("there are too many words, or too few")
    return kinds


def read_name(word):
    if len(word) < 1 or len(word) > LONGEST_NAME or not all([sign in NAME_SIGNS for sign in word]):
        raise NoName("a name has one to eight signs out of a to z and 0 to 9")
    return word


def row_named(kept, word):
    name = read_name(word)
    if name not in kept:
        raise NoName("no row stands by this name")
    return kept[name]


def read_word(kept, kind, word):
    if kind == "NEW":
        return read_name(word)
    if kind == "A":
        return row_named(kept, word)
    if kind == "NUMBER":
        return read_number(word)
    if kind == "BY":
        return read_prime(word)
    return read(word)


def make_row(said):
    return said[0]


def make_short(said):
    return shortest(said[0])


def make_add(said):
    return added(said[0], said[1])


def make_multiply(said):
    return multiplied(said[0], said[1])


def make_roll(said):
    return rolled(said[0], said[1])


def make_scale(said):
    return scaled(said[0], taken(said[0][0], said[1]))


def make_sum(said):
    return summed(said[0])


def make_every(said):
    return every(said[0], said[1], said[2])


def make_ahead(said):
    return put_ahead(said[0], [taken(said[0][0], number) for number in said[1:]])


def make_on(said):
    return onward(said[0], said[1])


def make_rest(said):
    return by_prime(said[0], said[1])


def numbers_shown(numbers):
    return " ".join([number_shown(number) for number in numbers])


def tell_show(said):
    return shown(said[0])


def tell_places(said):
    return numbers_shown(places(said[0], said[1]))


def tell_at(said):
    return number_shown(place_at(said[0], said[1]))


def tell_part(said):
    place = parting(said[0], said[1])
    return "never" if place is None else number_shown(place)


def tell_round(said):
    return numbers_shown(round_of(said[0]))


def tell_where(said):
    found = where(said[0], taken(said[0][0], said[1]))
    words = [number_shown(n) for n in found[0]]
    words.append("|")
    words.extend([number_shown(n) for n in found[1]])
    words.append("|")
    words.append(number_shown(found[2]))
    return " ".join(words)


def tell_closed(said):
    form = closed(said[0])
    if form is None:
        return "none"
    parts = [number_shown(form[0])]
    parts.extend([number_shown(part[0]) + ": " + numbers_shown(part[1]) for part in form[1]])
    return "; ".join(parts)


def tell_divisor(said):
    return number_shown(divisor_of(said[0]))


def tell_divides(said):
    # By a prime there is nothing to divide, whatever the number is: so this refusal comes first.
    refuse_prime(said[0])
    if said[1] < 1:
        raise NoNumber("a number to divide by is from 1 on")
    k = undivided(said[0], said[1], said[2], said[3])
    return "yes" if k is None else "no " + number_shown(k)


MAKERS = {
    "row": make_row,
    "short": make_short,
    "add": make_add,
    "multiply": make_multiply,
    "roll": make_roll,
    "scale": make_scale,
    "sum": make_sum,
    "every": make_every,
    "ahead": make_ahead,
    "on": make_on,
    "rest": make_rest,
}

TELLERS = {
    "show": tell_show,
    "places": tell_places,
    "at": tell_at,
    "part": tell_part,
    "round": tell_round,
    "where": tell_where,
    "closed": tell_closed,
    "divisor": tell_divisor,
    "divides": tell_divides,
}


class Desk:
    def __init__(self):
        self.kept = {}

    def say(self, row):
        words = words_of(row)
        kinds = kinds_of(words)
        said = [read_word(self.kept, kinds[k], words[k + 1]) for k in range(len(kinds))]
        if words[0] in TELLERS:
            return TELLERS[words[0]](said)
        if words[0] in MAKERS:
            self.kept[words[1]] = MAKERS[words[0]](said[1:])
        else:
            self.kept.pop(words[1])
        return "ok"
