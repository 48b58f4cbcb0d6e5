"""Points [32] and [33]: bounds, and all starts that come round."""

import unittest
from fractions import Fraction
from unittest import mock

from oracle import (
    BAD_NUMBERS, BAD_STEPS, GREAT, X, back, composed, fractions_of, new_random, pair, power, refused, same, some_step,
    step, value,
)
from stepswithin.bounds import MOST_LOOKED_AT
from stepswithin.doing import again
from stepswithin.starts import (
    bounds_of, comes_round, common_starts, leaves, ring_lengths, rings, starts, walk_of,
)

OF_A_STEP = (bounds_of, starts, rings, ring_lengths)
STRAIGHT = [X, step(1, 1), step("1/2", -3)]
STEPS = [
    step(-1, 0, 1), step("-29/16", 0, 1), step(-2, 0, 1), step(0, 0, 1), step(0, 0, 0, 1), step(0, 0, 0, -1),
    step(0, -3, 0, 1), step(1, 0, -1), step("-3/4", 0, 1), step("-21/16", 0, 1), step("-7/9", 0, 1),
    step(0, "1/2", "1/2"), step(1, "-3/2", "1/2"), step(0, 1, 1), step(0, 0, -2), step(0, "3/2", 0, "-1/2"),
    step(1, 0, 0, 0, -1), step("1/4", 0, 1), step(1, "-13/6", "5/2", "-1/3"), step("-301/144", 0, 1), step(4, 0, 2),
    step(0, -1, 0, 4), step(2, -1, -2), step(0, "-5/4", 0, 3), step("-1/4", "1/2", 1),
]


def bounds(told):
    """Return (R, D), R counted up to and D by what all numbers are over."""
    numbers = fractions_of(told)
    bound = 1
    while abs(numbers[-1]) * bound ** (len(told) - 1) < bound + sum(
            abs(number) * bound ** k for k, number in enumerate(numbers[:-1])):
        bound += 1
    below = 1
    while any((number * below).denominator != 1 for number in numbers):
        below += 1
    return bound, abs(numbers[-1] * below)


def is_within(told, number):
    """Return whether a fraction is within the bounds."""
    bound, below = bounds(told)
    return abs(number) <= bound and below % number.denominator == 0


def walked(told, number):
    """Return (TAIL, RING) of a fraction, or the number of times until it is beyond the bounds."""
    bound, below = bounds(told)
    path = []
    while abs(number) <= bound and below % number.denominator == 0:
        if number in path:
            at = path.index(number)
            return path[:at], path[at:]
        path.append(number)
        number = value(told, number)
    return len(path)


def all_within(told):
    """Return the ascending list of all fractions within the bounds."""
    bound, below = bounds(told)
    return [Fraction(top, int(below)) for top in range(int(-bound * below), int(bound * below) + 1)]


def pairs(numbers):
    """Return fractions as a tuple of numbers of the package."""
    return tuple(pair(number) for number in numbers)


def ring_list(told):
    """Return the rings of a step, each begun with its least number, ascending."""
    found = []
    for number in all_within(told):
        way = walked(told, number)
        if isinstance(way, tuple) and way[0] == [] and min(way[1]) == number:
            found.append(way[1])
    return found


class Bounds(unittest.TestCase):
    def test_examples(self):
        for told, found in ((step(-1, 0, 1), (2, 1)), (step("-29/16", 0, 1), (2, 16)), (step(4, 0, 2), (2, 2)),
                            (step(0, 0, 1), (1, 1)), (step(0, 0, -1), (1, 1)), (step(0, 0, 0, 7), (1, 7)),
                            (step("1/2", 0, "-3/4"), (2, 3)), (step(0, 0, "1/2"), (2, 1))):
            self.assertTrue(same(bounds_of(told), found))

    def test_against_counting(self):
        rng = new_random(401)
        for told in STEPS + [some_step(rng, rng.randint(2, 6), 20, 5) for _ in range(150)]:
            self.assertEqual(bounds_of(told), bounds(told))

    def test_great_bounds_are_not_counted_up_to(self):
        self.assertEqual(bounds_of(step(-GREAT, 0, 1)), (10 ** 30 + 1, 1))
        self.assertEqual(bounds_of(step(0, GREAT, 1)), (GREAT + 1, 1))
        self.assertEqual(bounds_of(step(0, GREAT, Fraction(1, GREAT))), (GREAT * (GREAT + 1), 1))
        self.assertEqual(bounds_of(step(0, 0, GREAT)), (1, GREAT))
        self.assertEqual(bounds_of(step(*[0] * 64, Fraction(1, GREAT))), (9, 1))
        told = ((GREAT, 1),) * 64 + ((1, GREAT),)
        bound = bounds_of(told)[0]
        for number, is_so in ((bound, True), (bound - 1, False)):
            others = number + sum(GREAT * number ** k for k in range(64))
            self.assertIs(number ** 64 >= GREAT * others, is_so)

    def test_what_is_below_the_line(self):
        self.assertEqual(bounds_of(step("1/6", "1/4", 5))[1], 60)
        self.assertEqual(bounds_of(step("1/3", 0, "-6/5"))[1], 18)
        self.assertEqual(bounds_of(((1, GREAT), (1, GREAT - 1), (1, 1)))[1], GREAT * (GREAT - 1))

    def test_facts(self):
        rng = new_random(402)
        for _ in range(60):
            told = some_step(rng, rng.randint(2, 4), 9, 4)
            bound, below = bounds_of(told)
            for number in (bound + 1, -bound - 1, bound + Fraction(1, 7), -bound - Fraction(5, 3)):
                self.assertGreater(abs(value(told, number)), abs(number))
            for number in (Fraction(1, 2 * below), Fraction(-3, 49 * below), Fraction(1, 11 ** 3)):
                if below % number.denominator:
                    later = value(told, number)
                    self.assertNotEqual(below % later.denominator, 0)
                    self.assertGreater(later.denominator, number.denominator)


class OneStart(unittest.TestCase):
    def test_examples(self):
        self.assertTrue(same(comes_round(step("-29/16", 0, 1), (1, 4)), (((1, 4),), ((-7, 4), (5, 4), (-1, 4)))))
        self.assertTrue(same(comes_round(step(-1, 0, 1), (1, 1)), (((1, 1),), ((0, 1), (-1, 1)))))
        self.assertEqual(comes_round(step(-1, 0, 1), (0, 1)), ((), ((0, 1), (-1, 1))))
        self.assertIsNone(comes_round(step(-2, 0, 1), (1, 2)))
        self.assertTrue(same(leaves(step(-2, 0, 1), (1, 2)), 0))

    def test_against_walking(self):
        rng = new_random(403)
        for told in STEPS + [some_step(rng, rng.randint(2, 4), 4, 3) for _ in range(40)]:
            numbers = {Fraction(top, below) for top in range(-9, 10) for below in (1, 2, 3, 4, 7)}
            for number in sorted(numbers):
                way, start = walked(told, number), pair(number)
                if isinstance(way, tuple):
                    self.assertTrue(same(comes_round(told, start), (pairs(way[0]), pairs(way[1]))))
                    self.assertEqual(refused(leaves, told, start), ("NoRow",))
                else:
                    self.assertIsNone(comes_round(told, start))
                    self.assertTrue(same(leaves(told, start), way))

    def test_great_starts_and_steps(self):
        self.assertIsNone(comes_round(step(-1, 0, 1), (GREAT, 1)))
        self.assertEqual(leaves(step(-1, 0, 1), (-GREAT, GREAT - 1)), 0)
        self.assertEqual(leaves(step(-1, 0, 1), (2, 1)), 1)
        told = step(10 ** 58, 1 - 2 * 10 ** 29, 1)
        self.assertEqual(comes_round(told, (10 ** 29, 1)), ((), ((10 ** 29, 1),)))
        self.assertEqual(leaves(step(0, GREAT, 1), (GREAT, 1)), 1)

    def test_two_thousand_numbers_within_the_bounds(self):
        told = step(-2, 0, 1)
        self.assertEqual(walk_of(told, (0, 1), 3), ([(0, 1), (-2, 1), (2, 1)], 2))
        self.assertEqual(refused(walk_of, told, (0, 1), 2), ("TooGreat", 2))
        leaving = step(1, 0, 1)
        self.assertEqual(bounds_of(leaving), (2, 1))
        self.assertEqual(walk_of(leaving, (0, 1), 3), ([(0, 1), (1, 1), (2, 1)], None))
        self.assertEqual(refused(walk_of, leaving, (0, 1), 2), ("TooGreat", 2))
        self.assertEqual(walk_of(leaving, (1, 1), 2), ([(1, 1), (2, 1)], None))
        self.assertEqual(MOST_LOOKED_AT, 2000)
        with mock.patch("stepswithin.starts.MOST_LOOKED_AT", 2):
            for call in (comes_round, leaves):
                self.assertEqual(refused(call, told, (0, 1)), ("TooGreat", 2))
                self.assertEqual(refused(call, leaving, (0, 1)), ("TooGreat", 2))
            self.assertEqual(leaves(leaving, (1, 1)), 2)
            self.assertEqual(comes_round(told, (-2, 1)), (((-2, 1),), ((2, 1),)))

    def test_a_step_with_great_bounds_is_walked(self):
        told = step(-997003, 0, 1)
        self.assertEqual(refused(starts, told), ("TooGreat", 2000))
        self.assertIsNone(comes_round(told, (0, 1)))
        self.assertEqual(leaves(told, (997, 1)), 1)
        self.assertEqual(comes_round(told, (-998, 1)), (((-998, 1),), ((-999, 1), (998, 1))))
        self.assertEqual(comes_round(step(-10 ** 40 + 10 ** 20, 0, 1), (-10 ** 20, 1)),
                         (((-10 ** 20, 1),), ((10 ** 20, 1),)))

    def test_wrong_parameters_in_their_order(self):
        for call in (comes_round, leaves):
            for told in BAD_STEPS:
                self.assertEqual(refused(call, told, None), ("BadStep", told))
            for told in STRAIGHT:
                self.assertEqual(refused(call, told, None), ("BadParameter", told))
            for number in BAD_NUMBERS:
                found = refused(call, step(-1, 0, 1), number)
                self.assertEqual(found[0], "BadNumber")
                self.assertIs(found[1], number)


class AllStarts(unittest.TestCase):
    def test_examples(self):
        told = step(-1, 0, 1)
        self.assertTrue(same(starts(told), ((-1, 1), (0, 1), (1, 1))))
        self.assertTrue(same(rings(told), (((-1, 1), (0, 1)),)))
        self.assertTrue(same(ring_lengths(told), (2,)))
        self.assertTrue(same(rings(step("-29/16", 0, 1)), (((-7, 4), (5, 4), (-1, 4)),)))
        self.assertEqual(starts(step("-29/16", 0, 1)),
                         pairs(Fraction(k, 4) for k in (-7, -5, -3, -1, 1, 3, 5, 7)))

    def test_no_starts(self):
        for told in (step(1, 0, 1), step(2, 0, 1), step(1, 1, 1), step("1/2", 0, 2)):
            self.assertEqual((starts(told), rings(told), ring_lengths(told)), ((), (), ()))

    def test_against_walking_from_each_number(self):
        rng = new_random(404)
        for told in STEPS + [some_step(rng, rng.randint(2, 4), 4, 3) for _ in range(40)]:
            bound, below = bounds(told)
            if 2 * bound * below + 1 <= 2000:
                coming = [number for number in all_within(told) if isinstance(walked(told, number), tuple)]
                told_rings = ring_list(told)
                self.assertTrue(same(starts(told), pairs(coming)))
                self.assertTrue(same(rings(told), tuple(pairs(ring) for ring in told_rings)))
                self.assertTrue(same(ring_lengths(told), tuple(sorted(len(ring) for ring in told_rings))))

    def test_rings_of_several_lengths(self):
        self.assertEqual(ring_lengths(step(1, "-3/2", "1/2")), (2,))
        self.assertEqual(rings(step(0, 0, 0, -1)), (((-1, 1), (1, 1)), ((0, 1),)))
        self.assertEqual(ring_lengths(step(0, 0, 0, -1)), (1, 2))
        self.assertEqual(rings(step(0, 0, 0, 1)), (((-1, 1),), ((0, 1),), ((1, 1),)))
        self.assertEqual(ring_lengths(step(0, 0, 0, 1)), (1, 1, 1))
        self.assertEqual(rings(step("-301/144", 0, 1)), (pairs((Fraction(-23, 12), Fraction(19, 12), Fraction(5, 12))),))

    def test_1999_and_2001_numbers_within_the_bounds(self):
        for told, found in ((step(-999 * 998, 0, 1), (999, 1)), (power(2)[:2] + ((999, 1),), (1, 999)),
                            (step(0, "-998/999", 0, "999/999"), (2, 999)), (step(0, 111 * 8, 111), (9, 111)),
                            (step(0, 0, "37/27"), (1, 37))):
            self.assertEqual(bounds_of(told), found)
            for call in (starts, rings, ring_lengths):
                self.assertIs(refused(call, told) is None, 2 * found[0] * found[1] + 1 <= 2000)
        self.assertEqual(starts(step(0, 0, 999)), ((-1, 999), (0, 1), (1, 999)))
        self.assertEqual(starts(step(-999 * 998, 0, 1)), pairs((-999, -998, 998, 999)))
        for told, found in ((step(-999 * 998 - 1, 0, 1), (1000, 1)), (step(0, 0, 1000), (1, 1000)),
                            (step(0, 125 * 7, 125), (8, 125)), (step(0, -GREAT, 1), (GREAT + 1, 1))):
            self.assertEqual(bounds_of(told), found)
            for call in (starts, rings, ring_lengths):
                self.assertEqual(refused(call, told), ("TooGreat", 2000))

    def test_great_degrees_and_numbers(self):
        told = step(*[0] * 64, Fraction(1, GREAT))
        self.assertEqual((starts(told), rings(told)), (((0, 1),), (((0, 1),),)))
        self.assertEqual(starts(power(64)), ((-1, 1), (0, 1), (1, 1)))
        self.assertEqual(starts(((1, 1),) * 65), ())
        self.assertEqual(starts(step(0, Fraction(1, GREAT), *[0] * 62, Fraction(7, GREAT))), ((0, 1),))

    def test_facts(self):
        rng = new_random(405)
        for told in STEPS[:16]:
            twice = again(told, 2)
            if refused(starts, twice) is None:
                self.assertEqual(starts(twice), starts(told))
                self.assertLessEqual(len(rings(told)), len(rings(twice)))
            for straight in (step(rng.randint(-2, 2), rng.choice((-1, 1))), step("1/2", 2), step(0, "-1/2")):
                turned = composed(back(straight), told, straight)
                if refused(starts, turned) is None:
                    moved = sorted(value(straight, Fraction(*number)) for number in starts(told))
                    self.assertEqual(starts(turned), pairs(moved))

    def test_wrong_steps(self):
        for call in OF_A_STEP:
            for told in BAD_STEPS:
                self.assertEqual(refused(call, told), ("BadStep", told))
            for told in STRAIGHT:
                self.assertEqual(refused(call, told), ("BadParameter", told))


class Common(unittest.TestCase):
    def test_against_both(self):
        for one in STEPS:
            for other in STEPS:
                both = [number for number in starts(one) if number in starts(other)]
                self.assertTrue(same(common_starts(one, other), tuple(both)))

    def test_fractions_in_common(self):
        self.assertEqual(common_starts(step("-29/16", 0, 1), step("-21/16", 0, 1)),
                         pairs(Fraction(k, 4) for k in (-7, -5, -3, -1, 1, 3, 5, 7)))
        self.assertEqual(common_starts(step(-1, 0, 1), step(0, 0, 0, 1)), pairs((-1, 0, 1)))
        self.assertEqual(common_starts(step(-2, 0, 1), step(1, 0, 1)), ())

    def test_wrong_parameters_in_their_order(self):
        wide, told = step(0, 0, 1000), step(-1, 0, 1)
        for bad in BAD_STEPS:
            self.assertEqual(refused(common_starts, bad, None), ("BadStep", bad))
            self.assertEqual(refused(common_starts, wide, bad), ("BadStep", bad))
        for straight in STRAIGHT:
            self.assertEqual(refused(common_starts, straight, None), ("BadParameter", straight))
            self.assertEqual(refused(common_starts, wide, straight), ("BadParameter", straight))
        for one, other in ((wide, told), (told, wide), (wide, wide)):
            self.assertEqual(refused(common_starts, one, other), ("TooGreat", 2000))


if __name__ == "__main__":
    unittest.main()
