import random
import unittest

from helper import FIBONACCI, NO_WHOLE_NUMBERS, PRIMES, assert_refused, shortest_by_chance, some_row, step_by_step
from nextbyrule import alike, divisors, far, mixes, roots, rounds, rows, shortest, texts
from nextbyrule.desk import Desk
from nextbyrule.errors import NoBy, NoName, NoNumber, NoRow, NoText, RuleError, TooBig, TooFar, TooLong

# How many words stand behind the first one; `row` takes any number from two on, `ahead` three to fourteen.
COUNTS = {
    "short": 2, "add": 3, "multiply": 3, "roll": 3, "scale": 3, "sum": 2, "every": 4, "on": 3, "rest": 3, "drop": 1,
    "show": 1, "places": 2, "at": 2, "part": 2, "round": 1, "where": 2, "closed": 1, "divisor": 1, "divides": 4,
}

# One right row of each kind, over the rows a and b by 0 and r by 7; A is where a name stands that must be there.
RIGHT = [
    "row x 1 1 | 0 1", "short x a", "add x a b", "multiply x a b", "roll x a b", "scale x a 3", "sum x a",
    "every x a 1 2", "ahead x a 5 6", "on x a 3", "rest x a 7", "drop a", "show a", "places a 5", "at a 5", "part a b",
    "round r", "where r 1", "closed a", "divisor a", "divides a 2 1 3",
]

NO_NAMES = ["", "A", "aB", "a-b", "a_b", "abcdefghi", "123456789", "a|", "|", ".", "~", "-1", "a,", "a\u00e4", "\u0661"]

NO_NUMBERS = ["", "-", "-0", "+1", "01", "-01", "1.0", "x", "1x", "--1", "1e3", "\u0661", "1_0", "1" + "0" * 60, "|"]

NO_TEXTS = ["", "1", "1 |", "| 1", "1 1 | 0", "1 1|0 1", "1 1 | 0 1 ", " 1 1 | 0 1", "1 1  | 0 1", "x | 1", "1 | 01",
            "1 | 1 by", "1 | 1 by 0", "1 | 1 by 4", "1 | 1 by 1009", "7 | 1 by 7", "| |", "-0 | 1", "1 | 1 by 7 ",
            " ".join(["1"] * 13) + " | " + " ".join(["1"] * 13), "1" + "0" * 60 + " | 1"]


def desk_with(**kept):
    """A desk by whose names these rows stand."""
    desk = Desk()
    for name, row in kept.items():
        assert desk.say("row " + name + " " + texts.shown(row)) == "ok"
    return desk


def ready():
    return desk_with(a=(0, (2, 3), (1, 1)), b=(0, (1, 1), (0, 1)), r=(7, (1, 1), (0, 1)), s=(7, (2, 0), (1, 1)))


def listed(numbers):
    return " ".join(str(number) for number in numbers)


class DeskTest(unittest.TestCase):
    def assert_said(self, desk, script):
        """Each line of the script is what is said, an arrow, and the answer."""
        for line in script.strip().split("\n"):
            said, answer = (line.strip() + " ").split(" -> ")
            told = desk.say(said)
            self.assertIs(type(told), str)
            self.assertEqual((said, told), (said, answer[:-1]))

    def assert_stays(self, refusal, *said):
        """What is refused changes nothing: whatever stood stands, and nothing more."""
        for words in said:
            desk = ready()
            before = self.kept_by(desk)
            assert_refused(self, refusal, desk.say, words)
            self.assertEqual(self.kept_by(desk), before)

    def kept_by(self, desk):
        found = {}
        for name in ["a", "b", "r", "s", "x", "abcdefgh", "0"]:
            try:
                found[name] = desk.say("show " + name)
            except NoName:
                pass
        return found


class KeptTest(DeskTest):
    def test_rows_that_are_told(self):
        self.assert_said(Desk(), """
            row f 1 1 | 0 1 -> ok
            show f -> 1 1 | 0 1
            row g 1 1 | 0 1 by 7 -> ok
            show g -> 1 1 | 0 1 by 7
            row e | -> ok
            show e -> |
            row e2 | by 7 -> ok
            show e2 -> | by 7
            row n -1 0 | 10 -20 -> ok
            show n -> -1 0 | 10 -20
        """)

    def test_a_row_stands_as_it_was_told(self):
        # Longer than need be, it isn't shortened but where this is asked.
        self.assert_said(Desk(), """
            row a 2 0 -1 | 0 1 1 -> ok
            show a -> 2 0 -1 | 0 1 1
            short b a -> ok
            show b -> 1 1 | 0 1
            show a -> 2 0 -1 | 0 1 1
            rest c a 5 -> ok
            show c -> 2 0 4 | 0 1 1 by 5
            on d a 3 -> ok
            show d -> 2 0 -1 | 2 3 5
        """)

    def test_names(self):
        signs = "abcdefghijklmnopqrstuvwxyz0123456789"
        names = list(signs) + [signs[k:k + 8] for k in range(0, 29)] + ["a1", "1a", "00000000", "row", "show", "by"]
        desk = Desk()
        for k, name in enumerate(names):
            self.assert_said(desk, f"row {name} {k} | {k + 1} -> ok")
        for k, name in enumerate(names):
            self.assert_said(desk, f"show {name} -> {k} | {k + 1}")

    def test_names_made_anew_replaced_and_dropped(self):
        desk = Desk()
        self.assert_said(desk, """
            row a 2 | 1 -> ok
            row b 3 | 1 -> ok
            add c a b -> ok
            show c -> 5 -6 | 2 5
            row a 5 | 1 -> ok
            show a -> 5 | 1
            show c -> 5 -6 | 2 5
            drop a -> ok
        """)
        for said in ["show a", "drop a", "add d a b", "add d b a"]:
            assert_refused(self, NoName, desk.say, said)
        self.assert_said(desk, """
            show b -> 3 | 1
            show c -> 5 -6 | 2 5
            row a 7 | 2 -> ok
            show a -> 7 | 2
            drop b -> ok
            show c -> 5 -6 | 2 5
        """)

    def test_a_new_name_may_be_that_of_what_is_asked(self):
        self.assert_said(desk_with(a=(0, (1, 1), (0, 1)), b=(0, (2,), (1,))), """
            on a a 10 -> ok
            show a -> 1 1 | 55 89
            add b a b -> ok
            show b -> 3 -1 -2 | 56 91 148
            multiply a a a -> ok
            show a -> 2 2 -1 | 3025 7921 20736
            add b b b -> ok
            show b -> 3 -1 -2 | 112 182 296
        """)

    def test_two_desks_share_nothing(self):
        one, other = Desk(), Desk()
        self.assert_said(one, "row a 1 | 1 -> ok")
        assert_refused(self, NoName, other.say, "show a")
        self.assert_said(other, "row a 2 | 2 -> ok\n row b 3 | 3 -> ok")
        assert_refused(self, NoName, one.say, "show b")
        self.assert_said(one, "show a -> 1 | 1\n drop a -> ok")
        self.assert_said(other, "show a -> 2 | 2\n show b -> 3 | 3")


class MakeTest(DeskTest):
    def check(self, script):
        """Each line is what is said and what is shown by the new name then; nothing else has changed."""
        for line in script.strip().split("\n"):
            said, row = line.strip().split(" -> ")
            desk = ready()
            name = said.split(" ")[1]
            self.assert_said(desk, f"{said} -> ok\n show {name} -> {row}")
            expected = self.kept_by(ready())
            expected[name] = row
            self.assertEqual(self.kept_by(desk), expected)

    def test_short(self):
        self.check("""
            short x s -> 2 0 | 1 1 by 7
            short a a -> 2 3 | 1 1
        """)

    def test_add_multiply_roll(self):
        self.check("""
            add x b b -> 1 1 | 0 2
            add x r s -> 3 6 5 0 | 1 2 3 6 by 7
            multiply x b b -> 2 2 -1 | 0 1 1
            multiply x r r -> 2 2 6 | 0 1 1 by 7
            roll x b b -> 2 1 -2 -1 | 0 0 1 2
            roll b b b -> 2 1 -2 -1 | 0 0 1 2
        """)

    def test_scale(self):
        self.check("""
            scale x a 3 -> 2 3 | 3 3
            scale x a -3 -> 2 3 | -3 -3
            scale x a 0 -> |
            scale x r 10 -> 1 1 | 0 3 by 7
            scale x r -1 -> 1 1 | 0 6 by 7
            scale x r 7 -> | by 7
        """)
        self.check(f"scale x r {-10 ** 59} -> 1 1 | 0 {-10 ** 59 % 7} by 7")

    def test_sum(self):
        self.check("""
            sum x b -> 2 0 -1 | 0 1 2
            sum r r -> 2 0 6 | 0 1 2 by 7
        """)

    def test_every(self):
        self.check("""
            every x b 1 2 -> 3 -1 | 1 2
            every x b 0 1 -> 1 1 | 0 1
            every x b 100 10 -> 123 -1 | 354224848179261915075 43566776258854844738105
        """)

    def test_ahead(self):
        self.check("""
            ahead x b 5 -> 1 1 0 | 5 0 1
            ahead x b 1 -> 1 1 | 1 0
            ahead x r 10 -2 -> 1 1 0 0 | 3 5 0 1 by 7
            ahead x b 1 2 3 4 5 6 7 8 9 10 -> 1 1 0 0 0 0 0 0 0 0 0 0 | 1 2 3 4 5 6 7 8 9 10 0 1
        """)
        desk = desk_with(e=(0, (), ()), p=(2, (), ()))
        for count in range(1, 13):
            twos, ones, noughts = " 2" * count, " 1" * count, "0 " * count
            self.assert_said(desk, f"ahead x e{twos} -> ok\n show x -> {noughts}|{twos}")
            self.assert_said(desk, f"ahead y p{' -3' * count} -> ok\n show y -> {noughts}|{ones} by 2")

    def test_on(self):
        self.check("""
            on x b 0 -> 1 1 | 0 1
            on x b 10 -> 1 1 | 55 89
            on x r 8 -> 1 1 | 0 6 by 7
        """)
        # By 7 it comes round in 16 steps.
        self.check(f"on x r {16 * 10 ** 58 + 8} -> 1 1 | 0 6 by 7")

    def test_rest(self):
        self.check("""
            rest x b 7 -> 1 1 | 0 1 by 7
            rest a a 2 -> 0 1 | 1 1 by 2
        """)
        great = 10 ** 59
        desk = desk_with(a=(0, (-1, great), (-great, 5)))
        for prime in PRIMES:
            row = f"{prime - 1} {great % prime} | {-great % prime} {5 % prime} by {prime}"
            self.assert_said(desk, f"rest x a {prime} -> ok\n show x -> {row}")


class AskTest(DeskTest):
    def test_places(self):
        self.assert_said(ready(), """
            places b 0 ->
            places b 1 -> 0
            places b 2 -> 0 1
            places b 10 -> 0 1 1 2 3 5 8 13 21 34
            places r 10 -> 0 1 1 2 3 5 1 6 0 6
            places s 0 ->
        """)
        self.assert_said(ready(), "places b 300 -> " + listed(step_by_step(FIBONACCI, 300)))
        self.assert_said(desk_with(e=(0, (), ())), "places e 3 -> 0 0 0\n places e 0 ->")

    def test_at(self):
        self.assert_said(ready(), """
            at b 0 -> 0
            at b 10 -> 55
            at r 10 -> 6
        """)
        self.assert_said(ready(), f"at b 400 -> {step_by_step(FIBONACCI, 401)[400]}")
        self.assert_said(ready(), f"at r {16 * 10 ** 58 + 3} -> 2")
        self.assert_said(desk_with(m=(0, (-2,), (1,))), "at m 3 -> -8")

    def test_part(self):
        self.assert_said(ready(), """
            part a a -> never
            part a b -> 0
            part b a -> 0
            part r s -> 0
            part s s -> never
        """)
        self.assert_said(desk_with(a=FIBONACCI, b=(0, (1, 1, 1), (0, 1, 1)), c=(0, (2, 0, -1), (0, 1, 1))), """
            part a b -> 4
            part a c -> never
            part b c -> 4
        """)

    def test_round(self):
        self.assert_said(ready(), "round r -> 0 16\n round s -> 1 3")
        self.assert_said(desk_with(e=(7, (), ())), "round e -> 0 1")

    def test_where(self):
        self.assert_said(ready(), """
            where r 0 -> | 0 8 | 16
            where r 7 -> | 0 8 | 16
            where r -7 -> | 0 8 | 16
            where r 1 -> | 1 2 6 15 | 16
            where r -6 -> | 1 2 6 15 | 16
            where s 1 -> 0 | 1 | 3
            where s 4 -> | 3 | 3
            where s 3 -> | | 3
            where s 6 -> | | 3
        """)
        self.assert_said(desk_with(a=(7, (0, 0, 0), (3, 0, 3)), b=(7, (0, 0, 1), (0, 0, 1)), e=(7, (), ())), """
            where a 3 -> 0 2 | | 1
            where a 0 -> 1 | 3 | 1
            where a 5 -> | | 1
            where b 0 -> | 0 1 | 3
            ahead b b 0 -> ok
            where b 0 -> 0 | 1 2 | 3
            where e 0 -> | 0 | 1
            where e 3 -> | | 1
        """)

    def test_closed(self):
        self.assert_said(Desk(), """
            row a 2 3 | 1 1 -> ok
            closed a -> 2; -1: 1; 3: 1
            row a 1 1 | 0 1 -> ok
            closed a -> none
            row a 5 -3 -9 | 0 0 1 -> ok
            closed a -> 48; -1: 3; 3: -3 4
            row a 5 -3 -9 | 1 4 23 -> ok
            closed a -> 2; -1: 1; 3: 1 2
            row a 2 -1 | 0 -1 -> ok
            closed a -> 1; 1: 0 -1
            row a 7 | -3 -> ok
            closed a -> 1; 7: -3
            row a | -> ok
            closed a -> 1
            row a 0 | 1 -> ok
            closed a -> none
        """)

    def test_divisor(self):
        self.assert_said(ready(), """
            divisor a -> 1
            scale x a -12 -> ok
            divisor x -> 12
            scale x a 0 -> ok
            divisor x -> 0
        """)

    def test_divides(self):
        self.assert_said(ready(), f"""
            divides b 2 0 3 -> yes
            divides b 2 0 1 -> no 1
            divides b 2 1 1 -> no 0
            divides b 1 100 10 -> yes
            divides b 55 100 10 -> yes
            divides a 2 0 1 -> no 0
            divides b {10 ** 60 - 1} 0 10 -> no 1
        """)


class RefusedTest(DeskTest):
    def test_each_right_row_is_answered(self):
        for said in RIGHT:
            self.assertIs(type(ready().say(said)), str)
        self.assertEqual(sorted([said.split(" ")[0] for said in RIGHT]), sorted(list(COUNTS) + ["row", "ahead"]))

    def test_things_that_are_no_texts(self):
        things = [thing for thing in NO_WHOLE_NUMBERS if not isinstance(thing, str)]
        self.assert_stays(NoRow, 0, 7, b"show a", ["show a"], ["show", "a"], ("show", "a"), {"show": "a"}, *things)

    def test_first_words(self):
        self.assert_stays(
            NoRow, "", " ", "  ", "a", "show", "Show a", "SHOW a", "shows a", "sho a", "ok", "a b", "| a", "showa",
            " show a", "  show a", "-1 a", "A", "never", "by 7", "quit", "help", "show-a", "1 1 | 0 1", "NEW x a")

    def test_numbers_of_words(self):
        for word, count in COUNTS.items():
            for other in range(18):
                if other != count:
                    self.assert_stays(NoRow, word + " a" * other)
        self.assert_stays(NoRow, "row", "row x", "row X", "ahead", "ahead x", "ahead x a", "ahead X zz")
        for more in range(13, 20):
            self.assert_stays(NoRow, "ahead x a" + " 1" * more, "ahead X zz" + " y" * more)

    def test_blanks(self):
        for said in RIGHT:
            word = said.split(" ")[0]
            self.assert_stays(NoRow, " " + said, "  " + said)
            if word not in ["row", "ahead"]:
                self.assert_stays(NoRow, said + " ", said + "  ")
                self.assert_stays(NoRow, *[said[:k] + " " + said[k:] for k in range(len(said)) if said[k] == " "])
        self.assert_stays(NoName, "row  x 1 | 1", "row  ", "row   ", "ahead  x a 1", "ahead x  a 1", "ahead x  1",
                          "ahead   ")
        self.assert_stays(NoText, "row x ", "row x  ", "row x  1 | 1", "row x 1  | 1", "row x 1 | 1 ",
                          "row x 1 | 1  by 7", "ahead x a ", "ahead x a  1", "ahead x a 1  2", "ahead x a 1 ",
                          "ahead x a 1 2  ")

    def test_a_word_without_signs(self):
        self.assert_stays(NoName, "show ", "drop ", "round ", "closed ", "divisor ", "add x a ", "add x  a", "add  a b",
                          "short x ", "short  a", "part a ", "part  a", "places  5", "rest x  7", "divides  2 0 1")
        self.assert_stays(NoText, "places a ", "at a ", "where r ", "scale x a ", "on x a ", "rest x a ",
                          "every x a 1 ", "every x a  1", "divides a 2 0 ", "divides a  0 1")

    def test_names_that_are_none(self):
        for said in RIGHT:
            words = said.split(" ")
            for at in [1] + [k for k in range(2, len(words)) if words[0] != "row" and words[k] in ["a", "b"]]:
                for name in NO_NAMES:
                    self.assert_stays(NoName, " ".join(words[:at] + [name] + words[at + 1:]))

    def test_names_by_which_nothing_stands(self):
        for said in RIGHT:
            words = said.split(" ")
            for at in [k for k in range(1, len(words)) if words[0] != "row" and words[k] in ["a", "b", "r"]]:
                for name in ["zz", "c", "aa", "0", "row", "abcdefgh"]:
                    self.assert_stays(NoName, " ".join(words[:at] + [name] + words[at + 1:]))
        self.assert_stays(NoName, "short x x", "add x x a", "add x a x", "drop x")

    def test_numbers_that_are_none(self):
        for said in RIGHT:
            words = said.split(" ")
            for at in [k for k in range(2, len(words)) if words[0] != "row" and words[k].isdigit()]:
                for number in NO_NUMBERS:
                    self.assert_stays(NoText, " ".join(words[:at] + [number] + words[at + 1:]))

    def test_texts_and_bys_that_are_none(self):
        for text in NO_TEXTS:
            self.assert_stays(NoText, "row x " + text, "row a " + text)
        for by in ["0", "1", "4", "9", "-7", "-2", "07", "999", "1000", "1009", "1" + "0" * 59, "x"]:
            self.assert_stays(NoText, "rest x a " + by, "rest a a " + by)

    def test_from_the_left(self):
        self.assert_stays(
            NoRow, "add X zz", "show A b", "places A", "scale X zz y 1", "rest X zz", "every X zz a", "drop A B")
        self.assert_stays(
            NoName, "row X y", "scale X a y", "scale x zz y", "every X a y y", "every x zz y y", "ahead x zz y",
            "ahead X a y", "on X a y", "rest X a 4", "rest x zz 4", "places zz y", "where A y", "add X a r",
            "add x zz r", "add x a zz", "divides zz y y y", "part r zz", "part zz r", "drop zz")
        self.assert_stays(
            NoText, "every x a 101 y", "every x a y 11", "divides r y 0 1", "divides r 0 y 1", "divides r 0 0 y",
            "divides a 0 101 y", "where a y", "rest x r 4", "rest x r y", "ahead x a 1 2 y", "scale x a y")

    def test_as_the_stages_refuse(self):
        self.assert_stays(
            TooFar, "places a -1", "places a 301", "places r 301", f"places a {10 ** 59}", "at a -1", "at a 401",
            "at r -1", f"at r {-10 ** 59}", "on x a -1", "on x a 401", "on x r -1", "every x a -1 1", "every x a 101 1",
            "every x a 0 0", "every x a 0 11", "every x a 0 -1", "every x r 101 1", "divides a 1 -1 1",
            "divides a 1 101 1", "divides a 1 0 0", "divides a 1 0 11")
        self.assert_stays(
            NoBy, "add x a r", "multiply x r a", "roll x a r", "part a r", "part r a", "rest x r 7", "rest r r 5",
            "round a", "where a 0", "closed r", "divisor r", "divides r 1 0 1")

    def test_a_number_to_divide_by(self):
        # Its refusal stands behind NoBy and ahead of TooFar.
        for number in [0, -1, -7, -10 ** 59]:
            for behind in ["0 1", "101 1", "-1 0"]:
                self.assert_stays(NoNumber, f"divides a {number} {behind}")
                self.assert_stays(NoBy, f"divides r {number} {behind}")
        self.assert_stays(NoBy, "divides r 1 101 1", "divides r 1 0 0")

    def test_too_long(self):
        chance = random.Random(370)
        seven = shortest_by_chance(chance, 0, 7)
        twelve = (2, (0,) * 11 + (1,), (1,) + (0,) * 11)
        nine = (3, (0,) * 8, (0,) * 7 + (1,))
        desk = desk_with(a=seven, b=twelve, c=nine)
        before = self.kept_by(desk)
        for said in ["add x a a", "roll x a a", "multiply x a a", "sum x b", "ahead x b 1", "ahead a a 1 2 3 4 5 6",
                     "round c", "where c 0", "where c 1"]:
            assert_refused(self, TooLong, desk.say, said)
        self.assertEqual(self.kept_by(desk), before)
        self.assert_said(desk, """
            ahead x a 1 2 3 4 5 -> ok
            round b -> 0 12
            where b 1 -> | 0 | 12
        """)

    def test_closed_too_big(self):
        self.assert_said(desk_with(a=(0, (999999,), (1,))), "closed a -> 1; 999999: 1")
        for rule in [(1000000,), (-1000000,), (0, 1000000)]:
            desk = desk_with(a=(0, rule, (1,) * len(rule)))
            assert_refused(self, TooBig, desk.say, "closed a")


class BigTest(DeskTest):
    def scaled_to(self, desk, name, power):
        """All that the row by this name has, times ten as often as told."""
        while power > 0:
            step = min(power, 59)
            self.assert_said(desk, f"scale {name} {name} {10 ** step} -> ok")
            power -= step

    def test_answers_with_numbers_of_four_thousand_figures(self):
        for start in [1, -1]:
            desk = desk_with(a=(0, (1,), (start,)))
            self.scaled_to(desk, "a", 3999)
            number = start * 10 ** 3999
            self.assert_said(desk, f"""
                at a 7 -> {number}
                places a 2 -> {number} {number}
                show a -> 1 | {number}
                closed a -> 1; 1: {number}
                divisor a -> {abs(number)}
            """)

    def test_greater_ones_are_refused(self):
        for start in [1, -1]:
            desk = desk_with(a=(0, (1,), (start,)))
            self.scaled_to(desk, "a", 4000)
            for said in ["at a 0", "at a 400", "places a 1", "places a 300", "show a", "closed a", "divisor a"]:
                assert_refused(self, TooBig, desk.say, said)
            # What has no such number in its answer is answered.
            self.assert_said(desk, """
                places a 0 ->
                part a a -> never
                divides a 1024 0 1 -> yes
                divides a 3 0 1 -> no 0
                rest b a 7 -> ok
                round b -> 0 1
                on c a 9 -> ok
                part a c -> never
                drop c -> ok
            """)

    def test_only_some_number_is_too_great(self):
        desk = desk_with(a=(0, (1000,), (1,)), b=(0, (2, -1), (0, 1)))
        # At the place 1333, which is reached in four steps, stands the first number of 4000 figures.
        for turn in range(3):
            self.assert_said(desk, "on a a 400 -> ok")
        self.assert_said(desk, f"at a 133 -> {10 ** 3999}")
        assert_refused(self, TooBig, desk.say, "at a 134")
        assert_refused(self, TooBig, desk.say, "places a 135")
        self.assertEqual(len(desk.say("places a 134").split(" ")), 134)
        self.scaled_to(desk, "b", 4000)
        assert_refused(self, TooBig, desk.say, "places b 2")
        assert_refused(self, TooBig, desk.say, "show b")
        self.assert_said(desk, "places b 1 -> 0\n at b 0 -> 0")

    def test_a_rule_with_great_numbers_stands(self):
        desk = desk_with(a=(0, (10 ** 59,), (1,)))
        for turn in range(2):
            self.assert_said(desk, "every a a 0 10 -> ok")
        assert_refused(self, TooBig, desk.say, "show a")
        assert_refused(self, TooBig, desk.say, "closed a")
        self.assert_said(desk, f"""
            rest b a 7 -> ok
            show b -> {10 ** 5900 % 7} | 1 by 7
            at a 0 -> 1
        """)


class ChanceTest(DeskTest):
    """Rows of words by chance, held against what the modules tell of the rows that stand."""

    NAMES = ["a", "b", "c", "d", "e1", "f2", "gg"]

    def words(self, chance):
        word = chance.choice(list(COUNTS) + ["row", "ahead"])
        name = lambda: chance.choice(self.NAMES)
        number = lambda: chance.choice([0, 1, 2, 3, 5, 7, 10, 11, 100, 101, -1, -2, chance.randint(-400, 400)])
        if word == "row":
            by = chance.choice([0, 0, 0, 2, 3, 7])
            return [word, name(), texts.shown(some_row(chance, by, chance.randint(0, 3), 3))]
        makes = word in ["short", "add", "multiply", "roll", "scale", "sum", "every", "ahead", "on", "rest"]
        names = 2 if makes or word == "part" else 1
        names = 3 if word in ["add", "multiply", "roll"] else names
        count = chance.randint(3, 5) if word == "ahead" else COUNTS[word]
        numbers = [str(number()) for turn in range(count - names)]
        if word == "rest":
            numbers = [chance.choice(["2", "3", "7", "101"])]
        return [word] + [name() for turn in range(names)] + numbers

    def expected(self, kept, words):
        word = words[0]
        if word == "row":
            return texts.read(words[2])
        behind = words[2:] if word in MADE else words[1:]
        said = [kept[part] if part in self.NAMES else int(part) for part in behind]
        return (MADE[word] if word in MADE else ASKED[word])(*said)

    def test_by_chance(self):
        chance = random.Random(380)
        answers = []
        for turn in range(30):
            desk, kept = Desk(), {}
            for name in self.NAMES:
                row = some_row(chance, chance.choice([0, 0, 2, 3, 7]), chance.randint(0, 3), 3)
                self.assert_said(desk, f"row {name} {texts.shown(row)} -> ok")
                kept[name] = row
            for step in range(60):
                words = self.words(chance)
                try:
                    if words[0] == "drop":
                        del kept[words[1]]
                        answer = "ok"
                    else:
                        answer = self.expected(kept, words)
                except KeyError:
                    assert_refused(self, NoName, desk.say, " ".join(words))
                except RuleError as refusal:
                    assert_refused(self, type(refusal), desk.say, " ".join(words))
                else:
                    if isinstance(answer, tuple):
                        kept[words[1]] = answer
                        answer = "ok"
                    self.assert_said(desk, " ".join(words) + " -> " + answer)
                    answers.append(words[0])
            for name, row in kept.items():
                self.assert_said(desk, f"show {name} -> {texts.shown(row)}")
        self.assertEqual(set(answers), set(COUNTS) | {"row", "ahead"})


def told_where(row, number):
    early, starts, length = rounds.where(row, number % row[0] if row[0] else number)
    parts = [listed(early), "|", listed(starts), "|", str(length)]
    return " ".join(part for part in parts if part)


def told_closed(row):
    form = roots.closed(row)
    if form is None:
        return "none"
    return str(form[0]) + "".join(f"; {root}: {listed(tops)}" for root, tops in form[1])


def told_divides(row, number, start, step):
    if row[0]:
        raise NoBy
    if number < 1:
        raise NoNumber
    told = divisors.undivided(row, number, start, step)
    return "yes" if told is None else f"no {told}"


def told_part(one, other):
    told = alike.parting(one, other)
    return "never" if told is None else str(told)


MADE = {
    "short": shortest.shortest, "add": mixes.added, "multiply": mixes.multiplied, "roll": mixes.rolled,
    "scale": lambda row, number: mixes.scaled(row, number % row[0] if row[0] else number), "sum": mixes.summed,
    "every": mixes.every, "on": far.onward, "rest": divisors.by_prime,
    "ahead": lambda row, *more: mixes.put_ahead(row, [part % row[0] if row[0] else part for part in more]),
}

ASKED = {
    "show": texts.shown, "places": lambda row, count: listed(rows.places(row, count)),
    "at": lambda row, n: str(far.place_at(row, n)), "part": told_part,
    "round": lambda row: listed(rounds.round_of(row)), "where": told_where, "closed": told_closed,
    "divisor": lambda row: str(divisors.divisor_of(row)), "divides": told_divides,
}


if __name__ == "__main__":
    unittest.main()
