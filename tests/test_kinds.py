"""Points [15] and [16]: Dickson's steps, powers, kinds of exchanges."""

import unittest
from fractions import Fraction

import oracle
from oracle import (
    BAD_NUMBERS, BAD_STEPS, GREAT, X, composed, dickson_pair, fractions_of, new_random, pair, power, power_pair,
    refused, same, some_number, some_step, step, value,
)
from stepswithin.fullrows import exchanged, is_unparted, plain_row
from stepswithin.kinds import dickson, dickson_form, exchange_kind, is_power, middle_of, power_exchange

H = step(0, 1, 1)
LONE = step(0, 0, 0, 1, 1)
P2, P3, P5 = power(2), power(3), power(5)


class Dickson(unittest.TestCase):
    def test_first_ones(self):
        self.assertEqual(dickson(1, (5, 1)), X)
        self.assertEqual(dickson(2, (5, 1)), step(-10, 0, 1))
        self.assertEqual(dickson(3, (5, 1)), step(0, -15, 0, 1))
        self.assertEqual(dickson(2, (1, 3)), step("-2/3", 0, 1))

    def test_by_the_rule(self):
        for degree in range(1, 65):
            for number in (Fraction(1), Fraction(-2, 3), Fraction(0)):
                self.assertTrue(same(dickson(degree, pair(number)), oracle.dickson(degree, number)))

    def test_number_nought_gives_powers(self):
        for degree in (1, 2, 7, 64):
            self.assertEqual(dickson(degree, (0, 1)), power(degree))

    def test_facts(self):
        rng = new_random(71)
        for _ in range(30):
            number, at = some_number(rng), some_number(rng) or Fraction(1)
            low, high = rng.randint(1, 8), rng.randint(1, 8)
            self.assertEqual(value(dickson(low, pair(number)), at + number / at), at ** low + (number / at) ** low)
            row = (dickson(low, pair(number)), dickson(high, pair(number ** low)))
            self.assertEqual(composed(*row), dickson(low * high, pair(number)))

    def test_greatest(self):
        found = dickson(64, (GREAT, 1))
        self.assertEqual((len(found), found[0]), (65, (2 * GREAT ** 32, 1)))
        self.assertEqual(dickson(64, (-1, GREAT))[0], (1, GREAT ** 32 // 2))

    def test_wrong_parameters_in_their_order(self):
        for degree in (None, True, False, 0, -1, 65, "2", 2.0, (2,), Fraction(2), GREAT):
            found = refused(dickson, degree, None)
            self.assertEqual(found[0], "BadParameter")
            self.assertIs(found[1], degree)
        for number in BAD_NUMBERS:
            self.assertEqual(refused(dickson, 64, number), ("BadNumber", number))


class Middle(unittest.TestCase):
    def test_middles(self):
        self.assertTrue(same(middle_of(H), (1, 2)))
        self.assertEqual(middle_of(step(7, 3, -6, 2)), (-1, 1))
        self.assertEqual(middle_of(power(64)), (0, 1))

    def test_no_power_next_to_the_highest(self):
        rng = new_random(72)
        for _ in range(40):
            told = some_step(rng, rng.randint(2, 7))
            least = -Fraction(*middle_of(told))
            self.assertEqual(composed(step(least, 1), told)[-2], (0, 1))


class Forms(unittest.TestCase):
    def test_degree_two_is_told_by_nought(self):
        self.assertTrue(same(dickson_form(H), (step("-1/4", 1), (0, 1), (1, 2))))
        self.assertEqual(dickson_form(step(1, 4, 2)), (step(-1, 2), (0, 1), (1, 1)))

    def test_each_step_of_degree_three(self):
        rng = new_random(73)
        for _ in range(40):
            told = some_step(rng, 3)
            last, number, middle = dickson_form(told)
            ahead = composed(step(Fraction(*middle), 1), oracle.dickson(3, Fraction(*number)), last)
            self.assertTrue(same(ahead, told))

    def test_told_forms_are_told_back(self):
        rng = new_random(74)
        for _ in range(60):
            degree, number = rng.randint(3, 12), some_number(rng)
            last, middle = some_step(rng, 1), some_number(rng)
            told = composed(step(middle, 1), oracle.dickson(degree, number), last)
            self.assertTrue(same(dickson_form(told), (last, pair(number), pair(middle))))
            self.assertIs(is_power(told), number == 0)

    def test_steps_without_a_form(self):
        for told in (LONE, step(0, 1, 0, 0, 1), step(0, 1, 0, 0, 0, 1), step(0, 3, 0, -5, 0, 1), step(*range(1, 66)),
                     composed(H, H, H)):
            self.assertEqual(refused(dickson_form, told), ("NoRow",))
            self.assertIs(is_power(told), False)

    def test_greatest_degree(self):
        told = oracle.dickson(64, 2)
        self.assertEqual(dickson_form(told), (X, (2, 1), (0, 1)))
        self.assertEqual(dickson_form(power(64)), (X, (0, 1), (0, 1)))
        self.assertEqual(refused(dickson_form, (told[0], (1, 1), *told[2:])), ("NoRow",))

    def test_powers(self):
        rng = new_random(75)
        for degree in range(2, 20):
            told = composed(some_step(rng, 1), power(degree), some_step(rng, 1))
            self.assertIs(is_power(told), True)
            self.assertEqual(dickson_form(told)[1], (0, 1))
            if degree > 2:
                self.assertIs(is_power((told[0], (told[1][0] + told[1][1], told[1][1]), *told[2:])), False)

    def test_straight_and_wrong_steps(self):
        for call in (middle_of, dickson_form, is_power):
            for told in (X, step(2, 3)):
                self.assertEqual(refused(call, told), ("BadParameter", told))
            for told in BAD_STEPS:
                self.assertEqual(refused(call, told), ("BadStep", told))


class ExchangeKinds(unittest.TestCase):
    def test_examples(self):
        first = step(0, 2, 1)
        for call in (exchange_kind, power_exchange):
            self.assertEqual(refused(call, (first, step(0, 7, 5, 1))), ("NoRow",))
        row = (first, step(-1, 0, 1, 1))
        self.assertEqual(exchange_kind(row), "power")
        self.assertTrue(same(power_exchange(row), (2, (1, 1), 1, ((-1, 1), (1, 1)), step(-1, 1))))

    def test_two_powers(self):
        self.assertEqual(power_exchange((P2, P3)), (2, (0, 1), 1, ((0, 1), (1, 1)), X))
        self.assertEqual(power_exchange((P3, P2)), (3, (0, 1), 2, ((1, 1),), X))
        self.assertEqual(power_exchange((P3, P5)), (3, (0, 1), 2, ((0, 1), (1, 1)), X))

    def test_power_behind(self):
        row = (step(0, -1, 0, 1), P2)
        self.assertEqual(exchange_kind(row), "power")
        self.assertEqual(power_exchange(row), (2, (0, 1), 1, ((-1, 1), (1, 1)), X))

    def test_told_rows_make_the_whole(self):
        rng = new_random(76)
        for _ in range(60):
            exponent = rng.choice((2, 2, 3, 5))
            row = power_pair(rng, exponent, rng.randint(1, exponent - 1), rng.randint(0, 2))
            if len(row[1]) == 2 or not all(is_unparted(told) for told in row):
                continue
            for told in (row, exchanged(row, 0)):
                self.assertEqual(exchange_kind(told), "power")
                self.check_told(told, power_exchange(told))

    def check_told(self, row, found):
        count, middle, rest, inner, last = found
        self.assertTrue(1 <= rest < count)
        self.assertEqual(inner[-1], (1, 1))
        self.assertEqual(len(last), 2)
        plain = plain_row(row)
        first = plain[0] if is_power(plain[0]) else exchanged(row, 0)[0]
        self.assertTrue(same(count, len(first) - 1))
        self.assertEqual(middle, middle_of(first))
        spread = [Fraction(0)] * (count * (len(inner) - 1) + 1)
        spread[::count] = fractions_of(inner)
        rooted = step(*[0] * rest, *spread)
        self.assertTrue(same(composed(step(Fraction(*middle), 1), rooted, power(count), last), composed(*row)))

    def test_dickson(self):
        rng = new_random(77)
        for low, high in ((3, 5), (5, 3), (3, 7), (5, 7), (3, 11)):
            row = dickson_pair(rng, low, high, rng.choice((-2, -1, 1, 2)))
            self.assertEqual(exchange_kind(row), "dickson")
            self.assertEqual(refused(power_exchange, row), ("NoRow",))
            self.assertEqual(exchange_kind(exchanged(row, 0)), "dickson")
        for high in (3, 5, 7):
            row = dickson_pair(rng, 2, high, 3)
            self.assertEqual(exchange_kind(row), "power")
            self.check_told(row, power_exchange(row))

    def test_greatest(self):
        row = power_pair(new_random(78), 5, 1, 10)
        self.assertEqual([len(told) - 1 for told in row], [5, 51])
        self.assertEqual(exchange_kind(row), "power")
        self.check_told(row, power_exchange(row))

    def test_what_cannot_be_exchanged(self):
        for row in ((H, H), (P2, LONE), (LONE, P3), (P2, step(0, 1, 1, 1)), (P3, P3), (step(0, 1, 1, 1), P5)):
            for call in (exchange_kind, power_exchange):
                self.assertEqual(refused(call, row), ("NoRow",))

    def test_wrong_rows_in_their_order(self):
        for call in (exchange_kind, power_exchange):
            for row in (None, 5, True, (), "ab", [P2, P3], (P2,), (P2, P3, P2), (None,), (None,) * 3, (P2,) * 9, {P2, P3}):
                self.assertEqual(refused(call, row), ("BadRow", ()))
            for told in BAD_STEPS:
                self.assertEqual(refused(call, (told, told)), ("BadRow", (0,)))
                self.assertEqual(refused(call, (X, told)), ("BadRow", (1,)))
            self.assertEqual(refused(call, (X, power(4))), ("BadRow", (0,)))
            self.assertEqual(refused(call, (P2, power(4))), ("BadRow", (1,)))
            self.assertEqual(refused(call, (power(61), X)), ("BadRow", (1,)))
            self.assertEqual(refused(call, (power(61), P5)), ("TooGreat", 256))
            self.assertEqual(refused(call, (LONE, step(*range(1, 66)))), ("NoRow",))
            self.assertEqual(refused(call, (P5, step(*range(1, 66)))), ("TooGreat", 256))


if __name__ == "__main__":
    unittest.main()
