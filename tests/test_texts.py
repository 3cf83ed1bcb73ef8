import copy
import itertools
import random
import unittest

from helper import BYS, FIBONACCI, NO_WHOLE_NUMBERS, PRIMES, assert_refused, some_row, some_rows
from nextbyrule.errors import NoText, TooBig
from nextbyrule.texts import read, shown

SHOWN = [
    ("1 1 | 0 1", (0, (1, 1), (0, 1))),
    ("1 1 | 0 1 by 7", (7, (1, 1), (0, 1))),
    ("|", (0, (), ())),
    ("| by 7", (7, (), ())),
    ("-2 | 3", (0, (-2,), (3,))),
    ("0 -1 | -10 0", (0, (0, -1), (-10, 0))),
    ("1 2 3 | 4 5 6", (0, (1, 2, 3), (4, 5, 6))),
    ("996 0 | 0 10 by 997", (997, (996, 0), (0, 10))),
    ("1 | 1 by 2", (2, (1,), (1,))),
]

# Figures of other scripts, and a two raised, that Python's own int or isdigit would take for figures.
OTHER_FIGURES = ["\u0661", "\uff11", "\u0967", "\u00b2"]


def text_of(row):
    """What the document asks for, put together by hand."""
    by, rule, starts = row
    words = [str(number) for number in rule] + ["|"] + [str(number) for number in starts]
    return " ".join(words) + (f" by {by}" if by else "")


class ShownTest(unittest.TestCase):
    def test_told_ones(self):
        for text, row in SHOWN:
            told = shown(row)
            self.assertIs(type(told), str)
            self.assertEqual(told, text)

    def test_rows_of_each_length(self):
        for row in some_rows():
            self.assertEqual(shown(row), text_of(row))

    def test_by_every_prime(self):
        for by in PRIMES:
            self.assertEqual(shown((by, (by - 1,), (0,))), f"{by - 1} | 0 by {by}")

    def test_numbers_of_many_figures(self):
        for figures in [60, 61, 200, 3999, 4000]:
            for number in [10 ** (figures - 1), 10 ** figures - 1]:
                ones = "1" + "0" * (figures - 1) if number % 10 == 0 else "9" * figures
                self.assertEqual(shown((0, (number, 2), (3, 4))), ones + " 2 | 3 4")
                self.assertEqual(shown((0, (1, -number), (3, 4))), "1 -" + ones + " | 3 4")
                self.assertEqual(shown((0, (1, 2), (number, 4))), "1 2 | " + ones + " 4")
                self.assertEqual(shown((0, (1, 2), (3, -number))), "1 2 | 3 -" + ones)

    def test_more_than_four_thousand_figures_are_refused(self):
        for number in [10 ** 4000, 10 ** 4001 - 1, 10 ** 4400, 10 ** 9000 + 1]:
            for signed in [number, -number]:
                for row in [(0, (signed,), (1,)), (0, (1,), (signed,)), (0, (1, 1, signed), (0, 0, 0)),
                            (0, (1, 1, 1), (signed, 0, 0)), (0, (signed,), (signed,))]:
                    assert_refused(self, TooBig, shown, row)


class ReadTest(unittest.TestCase):
    def assert_none(self, *things):
        for thing in things:
            with self.subTest(thing):
                assert_refused(self, NoText, read, thing)

    def test_told_ones(self):
        for text, row in SHOWN:
            self.assertEqual(read(text), row)

    def test_what_is_told_is_made_of_tuples_of_whole_numbers(self):
        for text, row in SHOWN:
            told = read(text)
            self.assertEqual([type(part) for part in (told,) + told], [tuple, int, tuple, tuple])
            self.assertTrue(all(type(number) is int for number in told[1] + told[2]))

    def test_what_is_shown_is_read(self):
        for row in some_rows():
            self.assertEqual(read(shown(row)), row)

    def test_what_is_shown_of_sixty_figures_is_read(self):
        chance = random.Random(7)
        for length in range(13):
            for turn in range(5):
                row = some_row(chance, 0, length, 10 ** chance.choice([1, 20, 59, 60]) - 1)
                self.assertEqual(read(shown(row)), row)
        for number in [10 ** 59, 10 ** 60 - 1, -(10 ** 59), 1 - 10 ** 60]:
            for row in [(0, (number,), (0,)), (0, (0,), (number,))]:
                self.assertEqual(read(shown(row)), row)

    def test_by_every_prime(self):
        for by in PRIMES:
            row = (by, (by - 1, 0), (1, by - 1))
            self.assertEqual(read(shown(row)), row)
            self.assertEqual(read(f"| by {by}"), (by, (), ()))

    def test_a_number_of_sixty_one_figures(self):
        for number in [10 ** 60, 10 ** 61 - 1, 10 ** 3999]:
            for word in [str(number), str(-number)]:
                self.assert_none(f"{word} | 1", f"1 | {word}", f"1 {word} | 1 1", f"1 1 | {word} 1", f"| by {word}")
        self.assert_none("0" * 61 + " | 1", "1 | " + "0" * 60 + "1", "0" * 59 + "1 | 1")

    def test_blanks_more_or_less(self):
        self.assert_none(" |", "| ", " | ", "  |", " | by 7", "|  by 7", "| by  7", "| by 7 ", "|by 7", "| by7", "|by7")
        for text, row in SHOWN:
            self.assert_none(" " + text, text + " ", "  " + text)
            blanks = [at for at in range(len(text)) if text[at] == " "]
            self.assert_none(*[text[:at] + " " + text[at:] for at in blanks])
        self.assert_none("1|0", "1 |0", "1| 0", "1 1| 0 1", "1 1 |0 1", "1 1 | 0 1by 7", "1 1 | 0 1 by7", "11 | 0 1")

    def test_other_blanks(self):
        for blank in ["\t", "\n", "\r", "\x0b", "\u00a0", "\u2003", "\x1f"]:
            self.assert_none("1" + blank + "| 0", "1 |" + blank + "0", blank + "|", "|" + blank, "| by" + blank + "7",
                             "1 | 0" + blank, "1 | 0 by 7" + blank, blank + "1 | 0", "1 | " + blank + "0")

    def test_no_bar_and_two_bars(self):
        self.assert_none("", " ", "1", "1 1", "1 0 1", "by 7", "1 1 0 1 by 7", "by", "7")
        self.assert_none("||", "| |", "1 || 0", "1 | | 0", "1 | 0 |", "| 1 | 0", "1 | 1 | 1", "| | by 7", "| by 7 |")

    def test_numbers_not_so_written(self):
        for word in ["-0", "00", "01", "-01", "-00", "007", "+1", "+0", "-", "--1", "-+1", "1-", "- 1", "1.0", "1.",
                     ".5", "1e3", "1_0", "0x1", "1,0", "one", "a", "", "by", "|1", "1|", "'1'", "(1)", "1;"]:
            self.assert_none(f"{word} | 1", f"1 | {word}", f"1 {word} | 1 1", f"1 1 | {word} 1", f"1 | {word} by 7")

    def test_other_figures(self):
        for figure in OTHER_FIGURES:
            self.assert_none(f"{figure} | 1", f"1 | {figure}", f"1{figure} | 1", f"1 | -{figure}", f"| by {figure}")

    def test_a_by_that_is_none(self):
        for word in ["4", "1", "0", "1009", "1000", "999", "961", "-7", "-2", "07", "+7", "-0", "00", "", "by", "7.0",
                     "p", "|", "x7", "7x", "1000000000000000000000000000057"]:
            self.assert_none(f"| by {word}", f"0 | 0 by {word}", f"1 1 | 0 1 by {word}")
        self.assert_none("| by", "1 | 1 by", "| by 7 by 7", "| by 7 7", "| 7 by", "by 7 |", "1 by 7 | 1", "| By 7",
                         "| BY 7", "| by: 7", "| of 7", "1 | 1 7", "by | by", "1 by | 1 7", "1 | 1 by 7 by 7")

    def test_numbers_that_are_none_by_the_by(self):
        for by in [2, 3, 7, 997]:
            for number in [-1, by, by + 1, 10 ** 59]:
                self.assert_none(f"{number} | 0 by {by}", f"0 | {number} by {by}", f"0 0 | 1 {number} by {by}")

    def test_unlike_lengths(self):
        for one in range(13):
            for other in range(13):
                text = " ".join(["1"] * one + ["|"] + ["0"] * other)
                if one != other:
                    self.assert_none(text, text + " by 7")

    def test_thirteen_in_each(self):
        for length in [13, 14, 100]:
            text = " ".join(["1"] * length + ["|"] + ["0"] * length)
            self.assert_none(text, text + " by 7")
        self.assertEqual(read(" ".join(["1"] * 12 + ["|"] + ["0"] * 12)), (0, (1,) * 12, (0,) * 12))

    def test_texts_of_many_signs(self):
        self.assert_none("1" * 4000, " " * 4000, "|" * 4000, "1 " * 2000, "- " * 2000, "| " * 2000, "by " * 1300)

    def test_each_sign_amiss(self):
        text = "1 1 | 0 1 by 7"
        signs = [chr(code) for code in range(32, 127) if chr(code) not in "0123456789- |by"]
        for at in range(len(text)):
            for sign in signs:
                self.assert_none(text[:at] + sign + text[at + 1:], text[:at] + sign + text[at:])

    def test_whatever_is_no_text(self):
        self.assert_none(0, 1, 7, -1, 10 ** 60, (0, (1, 1), (0, 1)), FIBONACCI, ["1", "|", "0"], ["1 1 | 0 1"],
                         ("1 1 | 0 1",), b"1 1 | 0 1", b"|", {"|": 1}, ["|"], ("|",))
        self.assert_none(*NO_WHOLE_NUMBERS)


class AllShortTextsTest(unittest.TestCase):
    def test_what_is_read_is_just_what_is_shown(self):
        found = []
        for length in range(7):
            for signs in itertools.product("|01- ", repeat=length):
                text = "".join(signs)
                try:
                    row = read(text)
                except NoText:
                    continue
                self.assertEqual(shown(row), text)
                found.append(row)
        short = [0, 1, 10, 11, -1, 100, 101, 110, 111, -10, -11]
        pairs = [(0, (one,), (other,)) for one in short for other in short if len(f"{one} | {other}") <= 6]
        self.assertEqual(sorted(found), sorted(pairs + [(0, (), ())]))


class OwnTest(unittest.TestCase):
    def test_what_is_handed_in_stays_as_it_was(self):
        things = [["1", "|", "0"], {"a": ["|"]}, ([1], [2])]
        before = copy.deepcopy(things)
        for thing in things:
            assert_refused(self, NoText, read, thing)
        self.assertEqual(things, before)

    def test_asked_again_the_same_is_told(self):
        for by in BYS:
            row = (by, (1, 0), (0, 1))
            text = shown(row)
            for turn in range(3):
                self.assertEqual(shown(row), text)
                self.assertEqual(read(text), row)


if __name__ == "__main__":
    unittest.main()
