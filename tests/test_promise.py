"""What the document promises over the whole program: how its parts agree with one another."""

import math
import random
import unittest

from helper import (
    BYS, PRIMES, form_at, is_shortest, lengthened, rest, some_monic, some_numbers, some_row, step_by_step,
)
from nextbyrule.alike import common, parting
from nextbyrule.desk import Desk
from nextbyrule.divisors import by_prime, divisor_of, undivided
from nextbyrule.far import onward, place_at
from nextbyrule.known import fitted, paper_of
from nextbyrule.mixes import added, every, multiplied, put_ahead, rolled, scaled, summed
from nextbyrule.polys import keeps
from nextbyrule.roots import closed
from nextbyrule.rounds import round_of, where
from nextbyrule.shortest import shortest
from nextbyrule.tables import determinant
from nextbyrule.texts import read, shown

SMALL_PRIMES = [2, 3, 5, 7, 11, 101, 997]


def row_with_roots(chance, roots):
    """A row by the rule whose polynomial has just these roots."""
    rule = (0, (), ())
    for root in roots:
        rule = lengthened(rule, (-root, 1))
    return (0, rule[1], tuple(some_numbers(chance, 0, len(roots), 20)))


class TakenByAPrimeTest(unittest.TestCase):
    def check(self, told, taken):
        # Rows put together are told as shortest rows; taken by a prime, a shorter rule may do.
        self.assertEqual(shortest(told), taken)

    def test_pairs(self):
        chance = random.Random(400)
        shorter = 0
        for turn in range(60):
            d, e = chance.randint(0, 3), chance.randint(0, 4)
            one, other = some_row(chance, 0, d, 12), some_row(chance, 0, e, 12)
            for prime in SMALL_PRIMES:
                ours, theirs = by_prime(one, prime), by_prime(other, prime)
                for mix in [added, multiplied, rolled]:
                    told = mix(one, other)
                    self.check(by_prime(told, prime), mix(ours, theirs))
                    shorter += len(mix(ours, theirs)[1]) < len(told[1])
        self.assertGreater(shorter, 20)

    def test_one_row(self):
        chance = random.Random(401)
        for turn in range(60):
            row = some_row(chance, 0, chance.randint(0, 9), 12)
            number = chance.randint(-30, 30)
            start, step = chance.randint(0, 100), chance.randint(1, 10)
            ahead = some_numbers(chance, 0, 3, 30)
            for prime in SMALL_PRIMES:
                taken = by_prime(row, prime)
                self.check(by_prime(shortest(row), prime), shortest(taken))
                self.check(by_prime(scaled(row, number), prime), scaled(taken, number % prime))
                self.check(by_prime(summed(row), prime), summed(taken))
                self.check(by_prime(every(row, start, step), prime), every(taken, start, step))
                self.check(by_prime(put_ahead(row, ahead), prime), put_ahead(taken, [part % prime for part in ahead]))
                self.assertEqual(by_prime(onward(row, start), prime), onward(taken, start))
                self.assertEqual(place_at(row, start) % prime, place_at(taken, start))


class FarAndRoundTest(unittest.TestCase):
    def test_far_places_and_rounds_agree(self):
        chance = random.Random(410)
        for by, most in [(2, 12), (3, 7), (5, 5), (7, 4), (13, 3), (61, 2), (997, 1)]:
            for turn in range(12):
                row = some_row(chance, by, chance.randint(0, most))
                begin, length = round_of(row)
                found = step_by_step(row, begin + length)
                for n in [0, begin, begin + length, 10 ** 59, 10 ** 60 - 1, chance.randint(0, 10 ** 60 - 1)]:
                    place = n if n < begin else begin + (n - begin) % length
                    self.assertEqual(place_at(row, n), found[place])
                    early, starts, step = where(row, found[place])
                    self.assertIn(place, early + starts)
                    self.assertEqual(step, length)
                    self.assertEqual(round_of(onward(row, n)), (max(begin - n, 0), length))

    def test_the_places_of_all_numbers_are_all_places(self):
        chance = random.Random(411)
        for by, most in [(2, 9), (3, 5), (7, 3), (31, 2), (101, 1)]:
            row = some_row(chance, by, most)
            begin, length = round_of(row)
            told = [where(row, number) for number in range(by)]
            self.assertEqual(sorted(n for each in told for n in each[0]), list(range(begin)))
            self.assertEqual(sorted(n for each in told for n in each[1]), list(range(begin, begin + length)))

    def test_rounds_of_rows_put_together(self):
        chance = random.Random(412)
        for by, most in [(2, 6), (3, 3), (5, 2), (7, 2)]:
            for turn in range(10):
                one = some_row(chance, by, chance.randint(0, most))
                other = some_row(chance, by, chance.randint(0, most))
                ours, theirs = round_of(one), round_of(other)
                both = math.lcm(ours[1], theirs[1])
                begin, length = round_of(added(one, other))
                self.assertLessEqual(begin, max(ours[0], theirs[0]))
                self.assertEqual(both % length, 0)


class ClosedTest(unittest.TestCase):
    def test_the_form_of_a_sum(self):
        chance = random.Random(420)
        whole = [-5, -4, -3, -2, -1, 1, 2, 3, 4, 5]
        for turn in range(80):
            one = row_with_roots(chance, chance.choices(whole, k=chance.randint(0, 4)))
            other = row_with_roots(chance, chance.choices(whole, k=chance.randint(0, 4)))
            bottom, parts = closed(one)
            their_bottom, their_parts = closed(other)
            both_bottom, both_parts = closed(added(one, other))
            for n in range(25):
                apart = form_at(parts, n) * their_bottom + form_at(their_parts, n) * bottom
                self.assertEqual(form_at(both_parts, n) * bottom * their_bottom, apart * both_bottom)
            # A row less itself has nothing left.
            self.assertEqual(closed(added(one, scaled(one, -1))), (1, []))

    def test_the_form_at_far_places(self):
        chance = random.Random(421)
        for turn in range(20):
            row = row_with_roots(chance, chance.choices([-3, -2, -1, 1, 2, 3], k=chance.randint(0, 6)))
            bottom, parts = closed(row)
            for n in [0, 1, 13, 300, 400]:
                self.assertEqual(bottom * place_at(row, n), form_at(parts, n))

    def test_the_form_of_products_and_of_every(self):
        chance = random.Random(422)
        for turn in range(30):
            one = row_with_roots(chance, chance.choices([-2, -1, 1, 2], k=chance.randint(0, 3)))
            other = row_with_roots(chance, chance.choices([-2, -1, 1, 2], k=chance.randint(0, 2)))
            bottom, parts = closed(one)
            their_bottom, their_parts = closed(other)
            both_bottom, both_parts = closed(multiplied(one, other))
            each_bottom, each_parts = closed(every(one, 3, 2))
            for n in range(20):
                product = form_at(parts, n) * form_at(their_parts, n)
                self.assertEqual(form_at(both_parts, n) * bottom * their_bottom, product * both_bottom)
                self.assertEqual(form_at(each_parts, n) * bottom, form_at(parts, 3 + 2 * n) * each_bottom)


class DivisorTest(unittest.TestCase):
    def test_a_prime_divides_all_places_just_where_the_row_by_it_is_of_the_length_0(self):
        chance = random.Random(430)
        seen = []
        for turn in range(60):
            factor = chance.choice([1, 2, 3, 6, 7, 210, 997])
            row = scaled(some_row(chance, 0, chance.randint(0, 6), 12), factor)
            for prime in SMALL_PRIMES:
                divides = undivided(row, prime, 0, 1) is None
                self.assertEqual(divides, divisor_of(row) % prime == 0)
                self.assertEqual(divides, shortest(by_prime(row, prime)) == (prime, (), ()))
                seen.append(divides)
        self.assertGreater(min(seen.count(True), seen.count(False)), 50)

    def test_divisors_of_every(self):
        chance = random.Random(431)
        for turn in range(60):
            row = scaled(some_row(chance, 0, chance.randint(0, 5), 6), chance.choice([1, 2, 6]))
            start, step = chance.randint(0, 100), chance.randint(1, 10)
            apart = every(row, start, step)
            for divisor in [1, 2, 3, 4, 5, 6, 12, divisor_of(apart) or 1]:
                told = undivided(row, divisor, start, step)
                self.assertEqual(told, undivided(apart, divisor, 0, 1))
                self.assertEqual(told is None, divisor_of(apart) % divisor == 0)


class ShortestTest(unittest.TestCase):
    def test_rows_agree_just_where_their_shortest_rows_are_equal(self):
        chance = random.Random(440)
        for by in BYS:
            for turn in range(20):
                row = some_row(chance, by, chance.randint(0, 5), 3)
                longer = lengthened(row, some_monic(chance, by, chance.randint(0, 6), 3))
                other = some_row(chance, by, chance.randint(0, 5), 3)
                self.assertEqual(shortest(row), shortest(longer))
                self.assertIsNone(parting(row, longer))
                self.assertEqual(shortest(row) == shortest(other), parting(row, other) is None)
                self.assertTrue(is_shortest(shortest(longer)))
                less = added(row, scaled(other, rest(by, -1)))
                self.assertEqual(less == (by, (), ()), parting(row, other) is None)
                self.assertTrue(keeps(added(row, other), common(row, other)))

    def test_the_rule_of_known_places(self):
        chance = random.Random(441)
        for by in BYS:
            for turn in range(12):
                row = some_row(chance, by, chance.randint(0, 12), 3)
                least = shortest(row)
                known = step_by_step(row, 24)
                self.assertEqual(fitted(by, known), ("one", 1, list(least[1])))
                for size in range(len(least[1])):
                    self.assertIsNotNone(paper_of(by, known, size))
                self.assertIsNone(paper_of(by, known, len(least[1])))
                table = [known[i:i + len(least[1])] for i in range(len(least[1]))]
                self.assertNotEqual(determinant(by, table), 0)


class DeskTest(unittest.TestCase):
    def test_a_desk_tells_what_the_modules_tell(self):
        chance = random.Random(450)
        for prime in PRIMES[::20]:
            one, other = some_row(chance, 0, 3, 9), some_row(chance, 0, 2, 9)
            desk = Desk()
            for said in [f"row a {shown(one)}", f"row b {shown(other)}", "roll c a b", f"rest c c {prime}", "short c c",
                         f"rest a a {prime}", f"rest b b {prime}", "roll d a b"]:
                self.assertEqual(desk.say(said), "ok")
            self.assertEqual(desk.say("part c d"), "never")
            self.assertEqual(desk.say("show c"), desk.say("show d"))
            self.assertEqual(read(desk.say("show d")), rolled(by_prime(one, prime), by_prime(other, prime)))


if __name__ == "__main__":
    unittest.main()
