"""Points [4], [6] and [8]: rows done, wholes, steps done again."""

import unittest
from fractions import Fraction

from oracle import (
    BAD_COUNTS, BAD_NUMBERS, BAD_STEPS, GREAT, X, composed, new_random, pair, power, refused, same, some_number,
    some_step, step, value,
)
from stepswithin.doing import again, numbers_along, row_degree, whole
from stepswithin.steps import head_of

H = step(0, 1, 1)
SQUARE = power(2)
BAD_ROWS = [(None, ()), ((), ()), ([H], ()), ((H,) * 9, ()), (5, ()), ((H, None), (1,)), ((None, H), (0,)), (H, (0,))]


class RowDegree(unittest.TestCase):
    def test_products(self):
        self.assertEqual(row_degree((X,)), 1)
        self.assertEqual(row_degree((H, power(3), X)), 6)
        self.assertEqual(row_degree((power(64),) * 8), 64 ** 8)

    def test_wrong_rows(self):
        for row, place in BAD_ROWS:
            self.assertEqual(refused(row_degree, row), ("BadRow", place))


class Whole(unittest.TestCase):
    def test_examples(self):
        self.assertTrue(same(whole((H, step(0, 0, 2))), step(0, 0, 2, 4, 2)))
        self.assertTrue(same(whole((step(0, 0, 2), H)), step(0, 0, 2, 0, 4)))
        self.assertTrue(same(whole((H,)), H))
        self.assertTrue(same(whole((step(1, 2), step(0, 0, 1))), step(1, 4, 4)))

    def test_against_powers_put_in(self):
        rng = new_random(11)
        for _ in range(80):
            row = tuple(some_step(rng, rng.randint(1, 4)) for _ in range(rng.randint(1, 3)))
            self.assertTrue(same(whole(row), composed(*row)))

    def test_cut_into_two_rows(self):
        rng = new_random(12)
        for _ in range(30):
            row = tuple(some_step(rng, rng.randint(1, 3)) for _ in range(4))
            for at in (1, 2, 3):
                self.assertEqual(composed(whole(row[:at]), whole(row[at:])), whole(row))

    def test_heads(self):
        rng = new_random(13)
        for _ in range(30):
            first, last = some_step(rng, 2), some_step(rng, 3)
            head = Fraction(*last[-1]) * Fraction(*first[-1]) ** 3
            self.assertEqual(head_of(whole((first, last))), pair(head))

    def test_greatest_degrees(self):
        self.assertEqual(whole((SQUARE,) * 8), power(256))
        self.assertEqual(whole((power(64), power(4))), power(256))
        self.assertEqual(whole((power(64), X, power(4), X)), power(256))
        for row in ((power(64), power(5)), (power(64), power(4), SQUARE), (SQUARE,) * 7 + (power(3),), (power(64),) * 8):
            self.assertEqual(refused(whole, row), ("TooGreat", 256))

    def test_numbers_may_be_greater_in_results(self):
        self.assertEqual(whole((step(GREAT, GREAT), step(0, 0, GREAT))),
                         ((GREAT ** 3, 1), (2 * GREAT ** 3, 1), (GREAT ** 3, 1)))
        self.assertEqual(whole((((1, GREAT), (1, 1)), SQUARE)), ((1, GREAT ** 2), (1, GREAT // 2), (1, 1)))

    def test_great_degree_is_refused_ahead_of_work(self):
        row = (tuple((GREAT - k, GREAT - k - 1) for k in range(65)),) * 8
        self.assertEqual(refused(whole, row), ("TooGreat", 256))
        self.assertEqual(refused(numbers_along, row, (GREAT, GREAT - 1)), ("TooGreat", 256))

    def test_wrong_rows(self):
        for row, place in BAD_ROWS:
            self.assertEqual(refused(whole, row), ("BadRow", place))
        self.assertEqual(refused(whole, (power(64),) * 7 + (None,)), ("BadRow", (7,)))


class NumbersAlong(unittest.TestCase):
    def test_numbers_behind_each_step(self):
        self.assertTrue(same(numbers_along((H, step(1, "1/2"), H), (2, 1)), ((6, 1), (4, 1), (20, 1))))
        self.assertEqual(numbers_along((X,), (-1, 3)), ((-1, 3),))

    def test_against_fractions(self):
        rng = new_random(14)
        for _ in range(60):
            row = tuple(some_step(rng, rng.randint(1, 3)) for _ in range(rng.randint(1, 4)))
            start = some_number(rng)
            numbers = numbers_along(row, pair(start))
            self.assertEqual(numbers[-1], pair(value(whole(row), start)))
            found = []
            for told in row:
                start = value(told, start)
                found.append(pair(start))
            self.assertTrue(same(numbers, tuple(found)))

    def test_greatest_degrees(self):
        self.assertEqual(numbers_along((power(64), power(4)), (2, 1)), ((2 ** 64, 1), (2 ** 256, 1)))
        self.assertEqual(refused(numbers_along, (power(64), power(5)), (2, 1)), ("TooGreat", 256))

    def test_wrong_parameters_in_their_order(self):
        for row, place in BAD_ROWS:
            self.assertEqual(refused(numbers_along, row, None), ("BadRow", place))
        for number in BAD_NUMBERS:
            self.assertEqual(refused(numbers_along, (H,), number), ("BadNumber", number))
            self.assertEqual(refused(numbers_along, (power(64),) * 2, number), ("BadNumber", number))


class Again(unittest.TestCase):
    def test_examples(self):
        self.assertEqual(again(H, 2), step(0, 1, 2, 2, 1))
        self.assertEqual(again(H, 1), H)
        self.assertEqual(again(power(3), 4), power(81))

    def test_no_times(self):
        for told in (X, H, power(64), step(5, -3)):
            self.assertTrue(same(again(told, 0), X))

    def test_against_rows(self):
        rng = new_random(15)
        for _ in range(30):
            told = some_step(rng, rng.randint(1, 3))
            count = rng.randint(1, 3)
            self.assertTrue(same(again(told, count), composed(*[told] * count)))

    def test_straight_steps_up_to_sixty_times(self):
        self.assertEqual(again(step(1, 1), 60), step(60, 1))
        self.assertEqual(again(step(0, GREAT), 60), ((0, 1), (GREAT ** 60, 1)))
        self.assertEqual(again(step(1, 2), 60), step(2 ** 60 - 1, 2 ** 60))

    def test_greatest_degrees(self):
        self.assertEqual(again(SQUARE, 8), power(256))
        self.assertEqual(again(power(16), 2), power(256))
        for told, count in ((SQUARE, 9), (power(16), 3), (power(17), 2), (power(64), 60), (H, 60)):
            self.assertEqual(refused(again, told, count), ("TooGreat", 256))

    def test_great_numbers(self):
        told = ((1, GREAT), (GREAT, 1), (GREAT - 1, GREAT))
        found = again(told, 5)
        self.assertEqual(len(found), 33)
        number = Fraction(1)
        for _ in range(5):
            number = value(told, number)
        self.assertEqual(value(found, Fraction(1)), number)

    def test_wrong_parameters_in_their_order(self):
        for told in BAD_STEPS:
            self.assertEqual(refused(again, told, None), ("BadStep", told))
        for count in (*BAD_COUNTS, 61, 10 ** 60, -10 ** 60):
            found = refused(again, power(64), count)
            self.assertEqual(found[0], "BadParameter")
            self.assertIs(found[1], count)
            self.assertEqual(refused(again, X, count)[0], "BadParameter")


if __name__ == "__main__":
    unittest.main()
