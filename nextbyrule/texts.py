"""Rows as text: how a row is shown, and which texts are read to a row."""

from nextbyrule.errors import NoText, TooBig
from nextbyrule.numbers import is_by
from nextbyrule.rows import is_row

FIGURES = "0123456789"
MOST_FIGURES_READ = 60


def above_all_shown():
    # 10 to the power 4000, the least number of 4001 figures.
    return ((10 ** 50) ** 8) ** 10


def number_shown(number):
    # The bound comes first: Python itself refuses to write a number of too many figures.
    if abs(number) >= above_all_shown():
        raise TooBig("a number of more than four thousand figures is not shown")
    return str(number)


def shown(row):
    words = [number_shown(number) for number in row[1]]
    words.append("|")
    words.extend([number_shown(number) for number in row[2]])
    if row[0] != 0:
        words.append("by")
        words.append(str(row[0]))
    return " ".join(words)


def is_written(word):
    figures = word[1:] if word.startswith("-") else word
    if len(figures) < 1 or len(figures) > MOST_FIGURES_READ:
        return False
    # Python's own isdigit would let in the figures of other scripts.
    if not all([figure in FIGURES for figure in figures]):
        return False
    return word == "0" or not figures.startswith("0")


def read_number(word):
    if not is_written(word):
        raise NoText("a number has one to sixty figures and no nought ahead")
    return int(word)


def read_prime(word):
    prime = read_number(word)
    # Numbers by 0 are shown without a by, so 0 is none here.
    if prime == 0 or not is_by(prime):
        raise NoText("behind by stands a prime below 1000")
    return prime


def read_words(rule_words, start_words, by):
    rule = tuple([read_number(word) for word in rule_words])
    starts = tuple([read_number(word) for word in start_words])
    row = (by, rule, starts)
    if not is_row(row):
        raise NoText("a row has as many starts as its rule has numbers, at most twelve, all of them numbers by its by")
    return row


def read(text):
    if not isinstance(text, str):
        raise NoText("only a text is read")
    words = text.split(" ")
    if words.count("|") != 1:
        raise NoText("one bar parts the rule from the starts")
    bar = words.index("|")
    behind = words[bar + 1:]
    end = len(behind) - 2
    if end >= 0 and behind[end] == "by":
        return read_words(words[:bar], behind[:end], read_prime(behind[end + 1]))
    return read_words(words[:bar], behind, 0)
