"""Points [1], [2], [3], [4] and [7]: numbers, steps, rows."""

import unittest
from fractions import Fraction

from oracle import (
    BAD_NUMBERS, BAD_STEPS, GREAT, X, composed, new_random, pair, power, refused, same, some_number, some_step, step,
    value,
)
from stepswithin.doing import whole
from stepswithin.steps import (
    degree_of, head_of, in_order, is_plain, need_number, need_row, need_step, plained, straight_back, value_at,
)

H = step(0, 1, 1)


class Numbers(unittest.TestCase):
    def test_numbers_are_told_back(self):
        for number in ((0, 1), (1, 1), (-1, 1), (1, 2), (-3, 7), (GREAT, 1), (-GREAT, 1), (1, GREAT), (-1, GREAT),
                       (GREAT - 1, GREAT), (GREAT, GREAT - 1)):
            self.assertTrue(same(need_number(number), number))

    def test_anything_else_is_refused_with_the_value(self):
        for number in BAD_NUMBERS:
            with self.subTest(number=number):
                found = refused(need_number, number)
                self.assertEqual(found[0], "BadNumber")
                self.assertIs(found[1], number)


class Steps(unittest.TestCase):
    def test_steps_are_told_back(self):
        for told in (X, H, step(5, "-1/2"), step(0, 0, 0, "7/3"), power(64), ((GREAT, 1), (-1, GREAT)), ((1, 1),) * 65):
            self.assertTrue(same(need_step(told), told))

    def test_anything_else_is_refused_with_the_value(self):
        for told in (*BAD_STEPS, power(65), ((1, 1),) * 66, (*H, (GREAT + 1, 1)), (*H, (0, 1))):
            with self.subTest(told=told):
                found = refused(need_step, told)
                self.assertEqual(found[0], "BadStep")
                self.assertIs(found[1], told)

    def test_each_bad_number_makes_a_bad_step_at_each_place(self):
        for number in BAD_NUMBERS:
            for told in ((number, (1, 1), (1, 1)), ((0, 1), number, (1, 1)), ((0, 1), (1, 1), number)):
                self.assertEqual(refused(need_step, told), ("BadStep", told))


class Rows(unittest.TestCase):
    def test_rows_are_told_back(self):
        for row in ((X,), (H, X, H), (H,) * 8, (power(64),) * 8):
            self.assertTrue(same(need_row(row), row))

    def test_no_tuple_of_one_to_eight_things(self):
        for row in (None, 1, True, "row", (), [H], (H,) * 9, (None,) * 9, {0: H}, b"ab", {1}):
            self.assertEqual(refused(need_row, row), ("BadRow", ()))

    def test_the_first_that_is_no_step(self):
        for told in BAD_STEPS:
            self.assertEqual(refused(need_row, (told,)), ("BadRow", (0,)))
            self.assertEqual(refused(need_row, (H, told, told)), ("BadRow", (1,)))
            self.assertEqual(refused(need_row, (H,) * 7 + (told,)), ("BadRow", (7,)))

    def test_a_step_alone_is_a_row_of_numbers_that_are_no_steps(self):
        self.assertEqual(refused(need_row, H), ("BadRow", (0,)))


class OneStep(unittest.TestCase):
    def test_degree_head_and_plain(self):
        cases = [
            (X, 1, (1, 1), True), (H, 2, (1, 1), True), (power(64), 64, (1, 1), True), (step(1, 1), 1, (1, 1), False),
            (step(0, 2), 1, (2, 1), False), (step(0, 1, "-1/3"), 2, (-1, 3), False), (step(1, 0, 1), 2, (1, 1), False),
        ]
        for told, degree, head, plain in cases:
            self.assertTrue(same(degree_of(told), degree))
            self.assertTrue(same(head_of(told), head))
            self.assertIs(is_plain(told), plain)

    def test_values(self):
        self.assertEqual(value_at(H, (3, 1)), (12, 1))
        self.assertEqual(value_at(H, (-1, 2)), (-1, 4))
        self.assertEqual(value_at(step("1/2", -3), (1, 6)), (0, 1))
        self.assertEqual(value_at(power(64), (1, GREAT)), (1, GREAT ** 64))
        self.assertEqual(value_at(power(64), (-GREAT, 1)), (GREAT ** 64, 1))
        self.assertEqual(value_at(step("2/3", "5/4"), (0, 1)), (2, 3))

    def test_values_are_those_of_fractions(self):
        rng = new_random(1)
        for _ in range(200):
            told = some_step(rng, rng.randint(1, 9))
            number = some_number(rng, 20, 9)
            self.assertTrue(same(value_at(told, pair(number)), pair(value(told, number))))

    def test_values_tell_the_step(self):
        one, other = step(0, 2, -3, 1), step(0, 2, -3, 2)
        self.assertEqual([value_at(one, pair(k)) == value_at(other, pair(k)) for k in range(4)], [True] + [False] * 3)

    def test_plained(self):
        self.assertEqual(plained(step(3, 1, 2)), (step(0, "1/2", 1), step(3, 2)))
        self.assertEqual(plained(step(5, -7)), (X, step(5, -7)))
        self.assertEqual(plained(H), (H, X))
        rng = new_random(2)
        for _ in range(60):
            told = some_step(rng, rng.randint(1, 8))
            plain, straight = plained(told)
            self.assertTrue(is_plain(plain))
            self.assertEqual(straight, (told[0], told[-1]))
            self.assertTrue(same(composed(plain, straight), told))

    def test_straight_back(self):
        self.assertEqual(straight_back(step("1/2", -3)), step("1/6", "-1/3"))
        self.assertEqual(straight_back(X), X)
        rng = new_random(3)
        for _ in range(60):
            told = some_step(rng, 1)
            back = straight_back(told)
            self.assertTrue(same(composed(told, back), X))
            self.assertTrue(same(composed(back, told), X))
        for told in (H, power(64)):
            self.assertEqual(refused(straight_back, told), ("NoRow",))

    def test_wrong_steps(self):
        for told in BAD_STEPS:
            for call in (degree_of, head_of, is_plain, plained, straight_back):
                self.assertEqual(refused(call, told), ("BadStep", told))
            self.assertEqual(refused(value_at, told, None), ("BadStep", told))
        for number in BAD_NUMBERS:
            self.assertEqual(refused(value_at, H, number), ("BadNumber", number))


class InOrder(unittest.TestCase):
    def test_by_degree_then_from_the_head_down(self):
        rising = (step(9, -9), step(-1, "1/3"), step(0, "1/2"), X, step(9, 9, -1), step(0, -1, 1), step(-2, "1/3", 1),
                  step("-3/2", "1/3", 1))
        self.assertEqual(in_order(rising), rising)
        self.assertEqual(in_order(rising[::-1]), rising)
        self.assertEqual(in_order((rising[3], rising[1], rising[3], rising[1])), (rising[1], rising[1], X, X))
        self.assertEqual(in_order((H,)), (H,))

    def test_by_size_not_by_figures(self):
        rising = (step(0, "-1/2"), step(0, "-1/3"), step(0, "1/3"), step(0, "2/5"), step(0, "1/2"))
        self.assertTrue(same(in_order(rising[::-1]), rising))
        close = (((0, 1), (GREAT - 2, GREAT - 1)), ((0, 1), (GREAT - 1, GREAT)), ((0, 1), (GREAT, GREAT - 1)))
        self.assertEqual(in_order((close[2], close[0], close[1])), close)

    def test_against_fractions(self):
        rng = new_random(4)
        for _ in range(100):
            row = tuple(some_step(rng, rng.randint(1, 3), 2, 3) for _ in range(8))
            rising = sorted(row, key=lambda told: (len(told), [Fraction(*number) for number in told[::-1]]))
            self.assertEqual(in_order(row), tuple(rising))

    def test_wrong_rows(self):
        self.assertEqual(refused(in_order, [H]), ("BadRow", ()))
        self.assertEqual(refused(in_order, ()), ("BadRow", ()))
        self.assertEqual(refused(in_order, (H, 1)), ("BadRow", (1,)))


class Wholes(unittest.TestCase):
    def test_facts_of_rows(self):
        first, behind = H, H
        told = step(0, 1, 2, 2, 1)
        self.assertEqual(whole((first, behind)), told)
        for degree_told in (told, H, step(4, 5)):
            self.assertEqual(whole((X, degree_told)), degree_told)
            self.assertEqual(whole((degree_told, X)), degree_told)


if __name__ == "__main__":
    unittest.main()
