"""Points [28] and [29]: turning round, classes and ways."""

import unittest
from fractions import Fraction
from itertools import product

from oracle import (
    BAD_STEPS, GREAT, X, back, candidate, composed, degrees, last_behind, middle, new_random, power, rational_roots,
    refused, same, some_step, step,
)
from stepswithin.roundabout import are_round, round_class, round_way, turned_round, turned_rounds

H = step(0, 1, 1)
P2, P3, P4 = power(2), power(3), power(4)
F = step(0, 0, 2, 0, 1)
TURNED = step(0, 0, 4, 4, 1)
LONE = step(0, 0, 0, 1, 1)


def turned(told, degree):
    """Return a step turned round, by the words."""
    first = candidate(told, degree)
    return composed(last_behind(told, first), first)


def are_partners(one, other):
    """Return whether two steps are partners: the head of the straight step is a root, the middles tell the rest."""
    if len(one) != len(other):
        return False
    for head in rational_roots(Fraction(*one[-1]) / Fraction(*other[-1]), len(one) - 2):
        straight = step(head * middle(one) - middle(other), head)
        if composed(straight, other) == composed(one, straight):
            return True
    return False


def met_from(told):
    """Return the steps met from one on, in the order of meeting, for a class of few steps."""
    met = [told]
    for one in met:
        for degree in degrees(one)[1:-1]:
            other = turned(one, degree)
            if not any(are_partners(other, old) for old in met):
                met.append(other)
    return met


def led(told, way):
    """Return what a step becomes by being turned round by some degrees, or None if one of them is of no first part."""
    for degree in way:
        if degree not in degrees(told)[1:-1]:
            return None
        told = turned(told, degree)
    return told


def least_way(one, other, longest):
    """Return the least of the shortest ways, by trying all ways in their order, or None."""
    inner = [degree for degree in range(2, len(one) - 1) if (len(one) - 1) % degree == 0]
    for size in range(longest + 1):
        for way in product(inner, repeat=size):
            told = led(one, way)
            if told is not None and are_partners(told, other):
                return way
    return None


def powers_met(size, most):
    """Return the (exponent, way) of all steps 2 ** exponent X ** size that are met from 2 X ** size on, at most so many.

    Turned round for X ** d the head's exponent becomes d times as great. Two of these are partners if the exponents are
    alike but for multiples of the size less 1.
    """
    inner = [degree for degree in range(2, size) if size % degree == 0]
    met = [(1, ())]
    for exponent, way in met:
        for degree in inner:
            told = exponent * degree
            if all((told - old) % (size - 1) != 0 for old, _ in met):
                met.append((told, (*way, degree)))
                if len(met) == most:
                    return met
    return met


def doubled(size, exponent):
    """Return the step 2 ** exponent X ** size."""
    return (*((0, 1),) * size, (2 ** exponent, 1))


class TurnedRound(unittest.TestCase):
    def test_examples(self):
        self.assertTrue(same(turned_round(F, 2), TURNED))
        self.assertTrue(same(turned_round(TURNED, 2), F))
        self.assertTrue(same(turned_rounds(F), (TURNED,)))
        self.assertEqual(turned_round(step(0, 1, 2, 2, 1), 2), step(0, 1, 2, 2, 1))

    def test_each_degree(self):
        rng = new_random(281)
        for sizes in ((2, 2), (2, 3), (3, 2), (2, 2, 2), (2, 3, 2), (4, 2), (5, 2)):
            row = [some_step(rng, size, 2, 2) for size in sizes]
            told = composed(*row)
            inner = degrees(told)[1:-1]
            self.assertTrue(same(turned_rounds(told), tuple(turned(told, degree) for degree in inner)))
            for degree in inner:
                found = turned_round(told, degree)
                self.assertTrue(same(found, turned(told, degree)))
                first = candidate(told, degree)
                self.assertEqual(composed(told, first), composed(first, found))

    def test_another_first_part_gives_a_partner(self):
        rng = new_random(282)
        for _ in range(10):
            row = composed(some_step(rng, 2, 2, 1), some_step(rng, 1, 2, 2)), some_step(rng, 3, 2, 1)
            other = composed(row[1], row[0])
            found = turned_round(composed(*row), 2)
            self.assertTrue(are_partners(found, other))
            self.assertTrue(are_partners(led(composed(*row), (2, 3)), composed(*row)))

    def test_powers_and_what_has_no_parts(self):
        self.assertEqual(turned_rounds(power(6)), (power(6), power(6)))
        self.assertEqual(turned_rounds(doubled(6, 1)), (doubled(6, 2), doubled(6, 3)))
        self.assertEqual(turned_rounds(LONE), ())
        self.assertEqual(turned_rounds(P2), ())
        self.assertEqual(turned_rounds(power(61)), ())
        self.assertEqual(len(turned_rounds(power(60))), 10)
        self.assertEqual(turned_round(power(64), 32), power(64))

    def test_great_numbers(self):
        told = (*((0, 1),) * 4, (GREAT, 1))
        self.assertEqual(turned_round(told, 2), (*((0, 1),) * 4, (GREAT ** 2, 1)))
        self.assertEqual(turned_round((*((0, 1),) * 6, (-1, GREAT)), 3), (*((0, 1),) * 6, (-1, GREAT ** 3)))

    def test_wrong_parameters_in_their_order(self):
        for told in BAD_STEPS:
            self.assertEqual(refused(turned_round, told, None), ("BadStep", told))
            self.assertEqual(refused(turned_rounds, told), ("BadStep", told))
            self.assertEqual(refused(round_class, told), ("BadStep", told))
        for told in (X, step(1, "-1/2")):
            self.assertEqual(refused(turned_round, told, None), ("BadParameter", told))
            self.assertEqual(refused(turned_rounds, told), ("BadParameter", told))
            self.assertEqual(refused(round_class, told), ("BadParameter", told))
        for degree in (None, True, 1, 4, 0, -2, 3, 5, 2.0, "2", (2,), Fraction(2), GREAT):
            found = refused(turned_round, F, degree)
            self.assertEqual(found[0], "BadParameter")
            self.assertIs(found[1], degree)
        self.assertEqual(refused(turned_round, LONE, 2), ("BadParameter", 2))
        self.assertEqual(refused(turned_round, P2, 2), ("BadParameter", 2))


class Classes(unittest.TestCase):
    def test_examples(self):
        self.assertTrue(same(round_class(F), (F, TURNED)))
        self.assertEqual(round_way(F, TURNED), (2,))
        self.assertEqual(round_class(LONE), (LONE,))
        self.assertEqual(round_class(power(60)), (power(60),))

    def test_against_the_words(self):
        rng = new_random(283)
        sizes = set()
        for kinds in ((2, 2), (2, 3), (2, 2, 2), (3, 3), (2, 3, 2), (2, 2, 2, 2)):
            for _ in range(3):
                row = [(*some_step(rng, size, 2, 1)[:-1], (rng.choice((1, -1, 2)) if len(kinds) < 4 else 1, 1))
                       for size in kinds]
                told = composed(*row)
                expected = met_from(told)
                sizes.add(len(expected))
                self.assertTrue(same(round_class(told), tuple(expected)))
        self.assertTrue({2, 3, 4} <= sizes)

    def test_steps_that_can_be_exchanged(self):
        for row in ((P2, step(0, 1, 0, 1)), (P2, step(0, 1, 2, 1), step(1, 1)), (P2, step(0, 1, 0, 1), step(1, 2, 1)),
                    (P3, step(1, 1), P2), (P2, step(3, 1), P3, step(1, 1))):
            told = composed(*row)
            expected = met_from(told)
            self.assertEqual(round_class(told), tuple(expected))
            for other in expected:
                self.assertEqual(round_way(told, other), least_way(told, other, 4))

    def test_powers_with_a_head(self):
        for size in (4, 6, 8, 9, 12, 15, 18, 30):
            expected = tuple(doubled(size, exponent) for exponent, _ in powers_met(size, 41))
            self.assertEqual(round_class(doubled(size, 1)), expected)

    def test_forty_are_let_the_next_one_is_not(self):
        expected = powers_met(42, 41)
        self.assertEqual(len(expected), 40)
        self.assertEqual(round_class(doubled(42, 1)), tuple(doubled(42, exponent) for exponent, _ in expected))
        self.assertEqual(round_way(doubled(42, 1), doubled(42, expected[-1][0] % 41)), expected[-1][1])
        self.assertEqual(refused(round_way, doubled(42, 1), LONE), ("NoRow",))
        self.assertEqual(len(powers_met(60, 42)), 42)
        self.assertEqual(refused(round_class, doubled(60, 1)), ("TooGreat", 40))


class Ways(unittest.TestCase):
    def test_least_of_the_shortest(self):
        rng = new_random(284)
        seen = set()
        for kinds in ((2, 2), (2, 3), (2, 2, 2), (2, 3, 2)):
            for _ in range(3):
                told = composed(*[(*some_step(rng, size, 2, 1)[:-1], (1, 1)) for size in kinds])
                for other in met_from(told):
                    shifted = composed(back(step(1, 2)), other, step(1, 2))
                    expected = least_way(told, other, 3)
                    seen.add(expected)
                    self.assertTrue(same(round_way(told, shifted), expected))
                    self.assertIs(are_round(told, shifted), True)
                    self.assertIs(are_round(shifted, told), True)
        self.assertTrue({(), (2,), (4,), (6,)} <= seen)

    def test_longer_ways(self):
        for size, few in ((14, 12), (12, 10), (30, 28)):
            met = powers_met(size, 41)
            self.assertEqual(len(met), few)
            for exponent, way in met:
                other = doubled(size, exponent % (size - 1))
                self.assertEqual(round_way(doubled(size, 1), other), way)

    def test_partners_are_round_at_once(self):
        for told in (H, LONE, F, step(1, 2, 3, 4)):
            other = composed(back(step(-3, "2/5")), told, step(-3, "2/5"))
            self.assertEqual(round_way(told, other), ())
            self.assertIs(are_round(told, other), True)

    def test_heads_of_partners(self):
        for size in (4, 6, 9):
            for head, factor in (("1/3", 3), (1, 7), ("2/7", "7/2"), (7, "1/7"), ("-5/11", 11), (13, "19/13"), (3, "31/3")):
                one = step(*[0] * size, head)
                other = step(*[0] * size, Fraction(head) * Fraction(factor) ** (size - 1))
                self.assertEqual(round_way(one, other), ())
                self.assertEqual(round_way(other, one), ())

    def test_none(self):
        for one, other in ((F, step(1, 0, 2, 0, 1)), (F, LONE), (H, P2), (H, P3), (P3, F), (LONE, F), (P4, doubled(4, 1))):
            self.assertEqual(refused(round_way, one, other), ("NoRow",))
            self.assertIs(are_round(one, other), False)

    def test_the_next_one_behind_forty(self):
        met = powers_met(60, 43)
        one = doubled(60, 1)
        for exponent, way in [*met[:39:6], met[39], met[40]]:
            self.assertEqual(round_way(one, doubled(60, exponent % 59)), way)
        for exponent, _ in met[41:]:
            self.assertEqual(refused(round_way, one, doubled(60, exponent % 59)), ("TooGreat", 40))
            self.assertEqual(refused(are_round, one, doubled(60, exponent % 59)), ("TooGreat", 40))
        self.assertEqual(refused(round_way, one, power(60)), ("TooGreat", 40))
        self.assertEqual(refused(are_round, one, LONE), ("TooGreat", 40))
        self.assertIs(are_round(one, doubled(60, met[40][0] % 59)), True)

    def test_straight_and_wrong_steps_in_their_order(self):
        for call in (round_way, are_round):
            for told in BAD_STEPS:
                self.assertEqual(refused(call, told, None), ("BadStep", told))
                self.assertEqual(refused(call, X, told), ("BadStep", told))
            self.assertEqual(refused(call, X, step(1, 2)), ("BadParameter", X))
            self.assertEqual(refused(call, H, step(1, 2)), ("BadParameter", step(1, 2)))


if __name__ == "__main__":
    unittest.main()
