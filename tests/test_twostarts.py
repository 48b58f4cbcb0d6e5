"""Points [34] and [35]: two starts of a whole step, together or apart for ever."""

import unittest
from fractions import Fraction
from itertools import product

from oracle import BAD_NUMBERS, BAD_STEPS, GREAT, X, pair, power, refused, same, step
from stepswithin.starts import bounds_of, comes_round
from stepswithin.twostarts import apart_moments, comes_together, is_apart_at

CALLS = (comes_together, apart_moments, is_apart_at)
BAD_WHOLE = [X, step(1, 1), step(0, 0, "1/2"), step("1/3", 0, 1), power(13), power(64), step("1/2", -3)]
BAD_INTEGERS = [(1, 2), (-3, 7), (GREAT, GREAT - 1), (1, GREAT)]
STEPS = [
    step(0, 0, 1), step(0, 0, -1), step(-1, 0, 1), step(0, 1, 1), step(0, 0, 0, 1), step(0, 0, 0, -1), step(0, -3, 0, 1),
    step(1, 0, 0, -1), step(-6, 0, 1), step(3, -1, -1), step(0, 1, 0, -1), step(2, 1, 0, 1), step(-2, 0, 0, 0, 1),
    step(0, 4, 0, -1), step(1, -1, 2), step(0, 0, 5, 0, -2), step(-12, 0, 1), step(0, -7, 0, 1), step(5, 0, -1),
    step(0, 0, 0, 0, 0, -1), step(7, 0, 3, 0, 0, 1), step(0, 9, 0, -2), step(0, 0, -3),
]


def at(told, number):
    """Return the value of a whole step at an integer."""
    return sum(top * number ** k for k, (top, _) in enumerate(told))


def numbers_of(told, start, many):
    """Return the first numbers of a start."""
    found = [start]
    while len(found) < many:
        found.append(at(told, found[-1]))
    return found


def comes_back(told, start):
    """Return whether an integer comes round."""
    bound, seen = bounds_of(told)[0], []
    while start not in seen:
        if abs(start) > bound:
            return False
        seen.append(start)
        start = at(told, start)
    return True


def shown(told, one, other, i, j):
    """Return whether two moments are apart, by the words of [34] and [35]."""
    bound, degree, head = bounds_of(told)[0], len(told) - 1, told[-1][0]
    times = 2 if degree % 2 == 1 and head < 0 else 1
    left, right = numbers_of(told, one, i + times + 1), numbers_of(told, other, j + 1)
    near, later, far = left[i], left[i + times], right[j]
    if abs(near) <= bound or abs(far) <= bound:
        return False
    if near * far < 0 and degree % 2 == 1 and head > 0:
        return True
    return near * far > 0 and near * later > 0 and min(near, later) < far < max(near, later)


def least_shown(told, one, other, most):
    """Return the least moments up to `most` that are apart, or None."""
    for i, j in product(range(most), repeat=2):
        if shown(told, one, other, i, j):
            return i, j
    return None


def least_meeting(told, one, other, most):
    """Return the least moments below `most` at which two starts have one number, or None."""
    left, right = numbers_of(told, one, most), numbers_of(told, other, most)
    return next(((i, right.index(number)) for i, number in enumerate(left) if number in right), None)


class Together(unittest.TestCase):
    def test_examples(self):
        told = power(2)
        self.assertTrue(same(comes_together(told, (2, 1), (-16, 1)), (3, 1)))
        self.assertIsNone(comes_together(told, (2, 1), (3, 1)))
        self.assertIsNone(comes_together(step(0, 0, 0, -1), (2, 1), (3, 1)))
        self.assertIsNone(comes_together(power(3), (2, 1), (-3, 1)))

    def test_against_looking(self):
        for told in STEPS:
            for one, other in product(range(-9, 10), repeat=2):
                most = 12 if comes_back(told, one) and comes_back(told, other) else 5
                self.assertEqual(comes_together(told, pair(one), pair(other)), least_meeting(told, one, other, most),
                                 (told, one, other))

    def test_on_both_sides_of_0(self):
        for told in (power(2), step(0, 0, -1), power(12), step(-1, 0, 3, 0, 1), step(0, 0, -2)):
            for start in (2, 5, 10 ** 9, GREAT):
                self.assertEqual(comes_together(told, (start, 1), (-start, 1)), (1, 1))
                self.assertEqual(comes_together(told, (start, 1), (start, 1)), (0, 0))
        for told in (power(3), step(0, 0, 0, -1), power(11)):
            self.assertIsNone(comes_together(told, (5, 1), (-5, 1)))

    def test_late(self):
        numbers = numbers_of(power(2), 2, 8)
        for place, number in enumerate(numbers):
            self.assertEqual(comes_together(power(2), (2, 1), (number, 1)), (place, 0))
            self.assertEqual(comes_together(power(2), (-number, 1), (2, 1)), (1, place + 1))
        told = step(-6, 0, 1)
        for place, number in enumerate(numbers_of(told, 4, 7)):
            self.assertEqual(comes_together(told, (4, 1), (-number, 1)), (place + 1, 1))

    def test_rings(self):
        told = step(-1, 0, 1)
        self.assertEqual(comes_together(told, (1, 1), (0, 1)), (1, 0))
        self.assertEqual(comes_together(told, (0, 1), (-1, 1)), (0, 1))
        self.assertEqual(comes_together(told, (1, 1), (-1, 1)), (1, 1))
        self.assertIsNone(comes_together(told, (1, 1), (2, 1)))
        self.assertIsNone(comes_together(told, (2, 1), (1, 1)))
        self.assertIsNone(comes_together(power(2), (0, 1), (1, 1)))
        self.assertEqual(comes_together(step(-2, 0, 1), (0, 1), (1, 1)), None)
        self.assertEqual(comes_together(step(-2, 0, 1), (-2, 1), (0, 1)), (0, 1))

    def test_facts(self):
        for told in STEPS[:12]:
            for one, other in product(range(-5, 6), repeat=2):
                found = comes_together(told, pair(one), pair(other))
                if found is not None:
                    i, j = found
                    left, right = numbers_of(told, one, i + 3), numbers_of(told, other, j + 3)
                    self.assertEqual(left[i:], right[j:])


class Apart(unittest.TestCase):
    def test_examples(self):
        self.assertTrue(same(apart_moments(power(2), (2, 1), (3, 1)), (0, 0)))
        self.assertEqual(apart_moments(step(0, 0, 0, -1), (2, 1), (3, 1)), (0, 0))
        self.assertEqual(apart_moments(power(3), (2, 1), (-3, 1)), (0, 0))

    def test_the_least_moments(self):
        for told in STEPS:
            for one, other in product(range(-9, 10), repeat=2):
                if comes_back(told, one) or comes_back(told, other) or least_meeting(told, one, other, 5) is not None:
                    self.assertEqual(refused(apart_moments, told, pair(one), pair(other)), ("NoRow",))
                else:
                    expected = least_shown(told, one, other, 7 if len(told) == 3 else 5)
                    self.assertEqual(apart_moments(told, pair(one), pair(other)), expected, (told, one, other))
                    self.assertIs(is_apart_at(told, pair(one), pair(other), expected), True)

    def test_far_starts(self):
        self.assertEqual(apart_moments(power(2), (2, 1), (10 ** 9, 1)), (4, 0))
        self.assertEqual(apart_moments(power(2), (10 ** 9, 1), (2, 1)), (0, 5))
        self.assertEqual(apart_moments(power(2), (-3, 1), (-2, 1)), (1, 2))
        self.assertEqual(apart_moments(step(0, 0, -1), (2, 1), (3, 1)), (1, 1))
        self.assertEqual(apart_moments(step(0, 0, -1), (-2, 1), (-3, 1)), (0, 0))
        self.assertEqual(apart_moments(power(3), (-GREAT, 1), (2, 1)), (0, 0))
        self.assertEqual(apart_moments(step(0, 0, 0, -1), (2, 1), (-3, 1)), (0, 1))
        self.assertEqual(apart_moments(step(0, 0, 0, -1), (GREAT, 1), (2, 1)), (0, 6))
        self.assertEqual(apart_moments(power(2), (-GREAT, 1), (GREAT + -1, 1)), (1, 2))
        self.assertEqual(refused(apart_moments, power(12), (-GREAT, 1), (GREAT, 1)), ("NoRow",))
        told = step(*[0] * 11, -1)
        i, j = apart_moments(told, (GREAT, 1), (2, 1))
        self.assertTrue(shown(told, GREAT, 2, i, j))

    def test_starts_that_come_round(self):
        told = step(-1, 0, 1)
        for one, other in ((0, 5), (5, 0), (1, -1), (0, 0), (5, 5), (5, -5)):
            self.assertEqual(refused(apart_moments, told, (one, 1), (other, 1)), ("NoRow",))
        self.assertIsNotNone(comes_round(told, (1, 1)))


class Papers(unittest.TestCase):
    def test_against_the_words(self):
        for told in STEPS:
            for one, other in product((-4, -1, 0, 2, 3, 7), repeat=2):
                for value in product(range(4), repeat=2):
                    self.assertIs(is_apart_at(told, pair(one), pair(other), value), shown(told, one, other, *value))

    def test_later_moments_are_apart_too(self):
        for i in range(8):
            self.assertIs(is_apart_at(power(2), (2, 1), (3, 1), (i, i)), True)
        self.assertIs(is_apart_at(power(2), (2, 1), (3, 1), (0, 1)), False)

    def test_numbers_up_to_10_to_300(self):
        told, one, other = power(3), (10, 1), (-10, 1)
        self.assertIs(is_apart_at(told, one, other, (5, 5)), True)
        for value in ((6, 5), (5, 6), (6, 6), (2000, 0), (0, 2000)):
            self.assertIs(is_apart_at(told, one, other, value), False)
        told = power(2)
        self.assertIs(is_apart_at(told, (10 ** 50 - 1, 1), (10 ** 50, 1), (2, 2)), True)
        self.assertIs(is_apart_at(told, (10 ** 50 - 1, 1), (10 ** 50, 1), (3, 3)), False)
        told = step(0, 0, 10 ** 20)
        self.assertIs(is_apart_at(told, (GREAT - 1, 1), (GREAT, 1), (2, 2)), True)
        self.assertIs(is_apart_at(told, (GREAT - 1, 1), (GREAT, 1), (3, 3)), False)
        told = step(1, 0, 10 ** 20)
        self.assertIs(is_apart_at(told, (GREAT - 1, 1), (GREAT, 1), (1, 1)), True)
        self.assertIs(is_apart_at(told, (GREAT - 1, 1), (GREAT, 1), (2, 2)), False)
        self.assertIs(is_apart_at(step(0, 0, 0, 0, 0, 1), (GREAT - 1, 1), (GREAT, 1), (1, 1)), True)
        self.assertIs(is_apart_at(step(1, 0, 0, 0, 0, 1), (GREAT - 1, 1), (GREAT, 1), (1, 1)), False)

    def test_moments_up_to_2000(self):
        for one, other in (((0, 1), (0, 1)), ((0, 1), (5, 1)), ((5, 1), (0, 1))):
            for value in ((0, 0), (2000, 0), (2000, 2000), (2001, 0), (0, 2001), (10 ** 9, 10 ** 9)):
                self.assertIs(is_apart_at(step(-1, 0, 1), one, other, value), False)
        self.assertIs(is_apart_at(power(3), (2, 1), (-3, 1), (-1, 0)), False)

    def test_values_of_any_kind(self):
        told, one, other = power(3), (2, 1), (-3, 1)
        self.assertIs(is_apart_at(told, one, other, (1, 0)), True)
        for value in (None, 1, "00", (), (0,), (0, 0, 0), [0, 0], (True, 0), (0, False), (0.0, 0), ("0", 0), (None, 0),
                      ((0, 0), 0), {0: 0}, (Fraction(0), 0), (0, -1), (10 ** 99, 0), b"aa", {0, 1}):
            self.assertIs(is_apart_at(told, one, other, value), False)


class Wrong(unittest.TestCase):
    def test_parameters_in_their_order(self):
        wide = step(-1000 * 999, 0, 1)
        for call in CALLS:
            rest = (None,) if call == is_apart_at else ()
            for told in BAD_STEPS:
                self.assertEqual(refused(call, told, None, None, *rest), ("BadStep", told))
            for told in BAD_WHOLE:
                self.assertEqual(refused(call, told, None, None, *rest), ("BadParameter", told))
            for number in BAD_NUMBERS:
                self.assertEqual(refused(call, wide, number, None, *rest), ("BadNumber", number))
                self.assertEqual(refused(call, wide, (1, 1), number, *rest), ("BadNumber", number))
            for number in BAD_INTEGERS:
                self.assertEqual(refused(call, wide, number, None, *rest), ("BadParameter", number))
                self.assertEqual(refused(call, wide, (1, 1), number, *rest), ("BadParameter", number))
            self.assertEqual(refused(call, wide, (1, 1), (2, 1), *rest), ("TooGreat", 2000))

    def test_bounds_of_999_and_1000(self):
        for told, bound in ((step(-999 * 998, 0, 1), 999), (step(-998 * 998, 0, -1), 999), (step(999 * 998, 0, -1), 999),
                            (step(-999 * 999, 0, 1), 1000), (step(0, 0, 999, 1), 1000), (step(0, 0, 998, -1), 999)):
            self.assertEqual(bounds_of(told)[0], bound)
            for call in CALLS:
                rest = (None,) if call == is_apart_at else ()
                found = refused(call, told, (5, 1), (1007, 1), *rest)
                self.assertEqual(found == ("TooGreat", 2000), bound == 1000)

    def test_degrees_from_2_to_12(self):
        for degree in range(2, 13):
            self.assertIsNone(comes_together(power(degree), (2, 1), (3, 1)))
            self.assertEqual(apart_moments(power(degree), (2, 1), (3, 1)), (0, 0))


if __name__ == "__main__":
    unittest.main()
