"""Points [24] and [25]: common wholes and bars."""

import unittest
from fractions import Fraction
from itertools import combinations
from math import lcm

from oracle import (
    BAD_STEPS, GREAT, X, back, composed, fractions_of, last_behind, new_random, pair, power, refused, same, some_step,
    step, times,
)
from stepswithin.commonwhole import are_joined, bar_places, common_whole, is_bar
from stepswithin.doing import whole
from stepswithin.kinds import dickson
from stepswithin.modulo import PRIME
from stepswithin.steps import is_plain

H = step(0, 1, 1)
ONE = (1, 1)
ODD = step(0, 1, 1, 1)
P2, P3 = power(2), power(3)


def powers(one, other):
    """Return the rows of the powers' numbers, lists of one length: 1, then those of each step."""
    size = lcm(len(one) - 1, len(other) - 1)
    rows = [[Fraction(1)]]
    for told in (one, other):
        found = [Fraction(1)]
        while len(found) + len(told) - 2 <= size:
            found = times(found, fractions_of(told))
            rows.append(found)
    return [row + [Fraction(0)] * (size + 1 - len(row)) for row in rows]


def determinant(rows):
    """Return the determinant of a square of fractions."""
    rows = [list(row) for row in rows]
    found = Fraction(1)
    for k in range(len(rows)):
        at = next((i for i in range(k, len(rows)) if rows[i][k] != 0), None)
        if at is None:
            return Fraction(0)
        if at != k:
            rows[k], rows[at] = rows[at], rows[k]
            found = -found
        found *= rows[k][k]
        for i in range(k + 1, len(rows)):
            part = rows[i][k] / rows[k][k]
            rows[i] = [left - part * right for left, right in zip(rows[i], rows[k])]
    return found


def rank(rows):
    """Return the rank of some rows of fractions."""
    rows = [list(row) for row in rows]
    found = 0
    for column in range(len(rows[0])):
        at = next((i for i in range(found, len(rows)) if rows[i][column] != 0), None)
        if at is not None:
            rows[found], rows[at] = rows[at], rows[found]
            for i in range(found + 1, len(rows)):
                part = rows[i][column] / rows[found][column]
                rows[i] = [left - part * right for left, right in zip(rows[i], rows[found])]
            found += 1
    return found


class Wholes(unittest.TestCase):
    def joined(self, one, other):
        """Ask that two steps have a common whole, and that what is told of it is right."""
        found = common_whole(one, other)
        self.assertIsInstance(found, tuple)
        ahead, behind, told = found
        self.assertEqual(len(told) - 1, lcm(len(one) - 1, len(other) - 1))
        self.assertTrue(told[0] == (0, 1) and told[-1] == ONE)
        self.assertTrue(same(composed(one, ahead), told))
        self.assertTrue(same(composed(other, behind), told))
        self.assertIs(are_joined(one, other), True)
        self.assertEqual(refused(bar_places, one, other), ("NoRow",))
        size = len(powers(one, other))
        self.assertIs(is_bar(one, other, tuple(range(size))), False)
        return found

    def barred(self, one, other):
        """Ask that two steps have no common whole, and that the bar is right."""
        self.assertIsNone(common_whole(one, other))
        self.assertIs(are_joined(one, other), False)
        places = bar_places(one, other)
        rows = powers(one, other)
        self.assertIsInstance(places, tuple)
        self.assertTrue(all(type(place) is int for place in places))
        self.assertEqual(len(places), len(rows))
        self.assertEqual(list(places), sorted(set(places)))
        self.assertTrue(0 <= places[0] and places[-1] < len(rows[0]))
        self.assertNotEqual(determinant([[row[place] for place in places] for row in rows]), 0)
        self.assertIs(is_bar(one, other, places), True)
        return places

    def test_examples(self):
        self.assertEqual(self.joined(P2, P3), (P3, P2, power(6)))
        found = self.joined(P2, step(0, -3, 0, 1))
        self.assertTrue(same(found, (step(0, 9, -6, 1), P2, step(0, 0, 9, 0, -6, 0, 1))))
        self.assertEqual(self.barred(P2, ODD), (0, 2, 3, 4, 5, 6))
        self.assertIs(is_bar(P2, ODD, (0, 2, 3, 4, 5, 6)), True)

    def test_against_the_rank(self):
        rng = new_random(241)
        seen = {True: 0, False: 0}
        pool = [P2, P3, power(4), power(6), H, step(0, -3, 0, 1), dickson(4, ONE), dickson(5, ONE), dickson(6, (2, 1)),
                step(0, 0, 1, 0, 1), step(0, 1, 0, 1), composed(H, P2), composed(H, P3), step(1, 2), step(0, 1, 2, 1)]
        pool += [some_step(rng, rng.randint(1, 4), 2, 1) for _ in range(8)]
        for one in pool:
            for other in pool:
                rows = powers(one, other)
                if len(rows[0]) <= 21:
                    there = rank(rows) < len(rows)
                    seen[there] += 1
                    (self.joined if there else self.barred)(one, other)
        self.assertGreater(min(seen.values()), 50)

    def test_first_parts_of_one_row(self):
        rng = new_random(242)
        for low, high in ((2, 2), (2, 3), (3, 2), (3, 3), (4, 2), (2, 6)):
            first, last = some_step(rng, low, 3, 2), some_step(rng, high, 3, 2)
            both = composed(first, last)
            self.joined(first, both)
            self.joined(both, first)
            self.joined(composed(first, some_step(rng, 1)), both)

    def test_straight_steps(self):
        rng = new_random(243)
        for degree in (1, 2, 5, 9):
            straight, told = some_step(rng, 1), some_step(rng, degree)
            ahead, behind, both = self.joined(straight, told)
            least, head = fractions_of(told)[0], fractions_of(told)[-1]
            self.assertEqual(behind, back(step(least, head)))
            self.assertEqual(ahead, composed(back(straight), both))
            self.joined(told, straight)
        self.assertEqual(common_whole(X, X), (X, X, X))
        self.assertEqual(common_whole(X, P2), (P2, X, P2))

    def test_two_steps_of_one_degree(self):
        rng = new_random(244)
        for degree in range(2, 7):
            told = some_step(rng, degree)
            self.joined(told, composed(told, some_step(rng, 1)))
            other = (told[0], pair(Fraction(*told[1]) + 1), *told[2:])
            self.assertEqual(self.barred(told, other), (0, 1, degree))

    def test_powers_and_dicksons_told_by_any_letter(self):
        rng = new_random(245)
        for low, high in ((2, 3), (2, 5), (3, 4), (3, 5), (4, 6), (6, 9), (5, 7)):
            ahead = some_step(rng, rng.choice((1, 1, 2)), 2, 2)
            for one, other in ((power(low), power(high)), (dickson(low, (3, 2)), dickson(high, (3, 2)))):
                left, right = composed(ahead, one, some_step(rng, 1, 3, 2)), composed(ahead, other, some_step(rng, 1, 3, 2))
                found = self.joined(left, right)
                self.assertEqual(len(found[2]) - 1, lcm(low, high) * (len(ahead) - 1))

    def test_exchanges_of_powers(self):
        inner = [Fraction(2), Fraction(-1, 3), Fraction(1)]
        spread = step(0, *[number for part in inner for number in (part, 0, 0)][:-2])
        self.assertEqual(len(spread) - 1, 7)
        ahead, behind, both = self.joined(P3, spread)
        self.assertEqual(behind, P3)
        self.assertEqual(ahead, step(*times([0, 1], times(inner, times(inner, inner)))))
        self.barred(P2, spread)

    def test_same_step_ahead_of_both(self):
        rng = new_random(246)
        for one, other in ((P2, P3), (P2, ODD), (P3, ODD)):
            ahead = some_step(rng, 2, 3, 1)
            self.assertIs(are_joined(composed(ahead, one), composed(ahead, other)), are_joined(one, other))

    def test_no_common_first_part_of_the_common_degree(self):
        self.barred(power(4), step(0, 1, 1, 0, 0, 0, 1))
        self.barred(power(4), composed(H, P3))
        self.barred(composed(P2, H), composed(H, P2))

    def test_greatest_degrees(self):
        self.assertEqual(common_whole(power(51), power(5))[2], power(255))
        self.assertEqual(common_whole(power(63), power(4))[0], power(4))
        self.assertEqual(common_whole(power(64), power(32)), (X, P2, power(64)))
        self.assertIs(are_joined(dickson(15, ONE), dickson(17, ONE)), True)
        self.assertEqual(whole((dickson(15, ONE), common_whole(dickson(15, ONE), dickson(17, ONE))[0])),
                         common_whole(dickson(15, ONE), dickson(17, ONE))[2])
        dense = step(*range(1, 64), 1)
        places = bar_places(power(4), dense)
        self.assertEqual(len(places), 68)
        self.assertIs(is_bar(power(4), dense, places), True)
        self.assertIs(is_bar(dense, power(4), places), True)
        self.assertIsNone(common_whole(dense, power(4)))

    def test_too_great(self):
        for one, other in ((power(43), power(6)), (power(64), power(5)), (power(63), power(64)), (dickson(37, ONE), P2)):
            expected = ("TooGreat", 256) if lcm(len(one) - 1, len(other) - 1) > 256 else None
            for call in (common_whole, are_joined, lambda *parts: is_bar(*parts, None)):
                self.assertEqual(refused(call, one, other), expected)
            self.assertEqual(refused(bar_places, one, other), expected or ("NoRow",))

    def test_what_a_prime_cannot_see(self):
        self.barred(P2, step(0, 0, PRIME, 1))
        self.barred(P2, step(0, PRIME, PRIME, 1))
        self.barred(H, step(0, Fraction(1, PRIME), 1))
        self.barred(step(0, Fraction(1, PRIME), 1), step(0, 0, Fraction(1, PRIME), 2))
        self.joined(step(0, Fraction(2, PRIME), 1), composed(step(Fraction(1, PRIME), 1), P3))
        self.joined(P2, step(0, PRIME, 0, 1))
        self.joined(step(0, 0, PRIME), step(1, 0, 0, Fraction(1, PRIME)))
        self.joined(step(0, 1, PRIME), composed(step(0, 1, PRIME), P3))


class Bars(unittest.TestCase):
    def test_all_tuples_of_small_steps(self):
        for one, other in ((P2, ODD), (ODD, P2), (H, P3), (P2, H), (P2, step(0, 1, 0, 0, 1)), (power(3), step(0, 1, 1, 0, 1)),
                           (step(1, "2/3", -2), step(0, 1, "-1/2", 3)), (P2, step(0, 0, PRIME, 1)), (P2, P3), (X, P2)):
            rows = powers(one, other)
            for places in combinations(range(len(rows[0])), len(rows)):
                expected = determinant([[row[place] for place in places] for row in rows]) != 0
                self.assertIs(is_bar(one, other, places), expected, (one, other, places))

    def test_values_of_any_kind(self):
        good = (0, 2, 3, 4, 5, 6)
        for value in (None, 5, True, "023456", list(good), set(good), (), (0,), good[:-1], (*good, 7), (0, 2, 3, 4, 5, 7),
                      (0, 2, 3, 4, 6, 5), (0, 2, 3, 4, 5, 5), (-1, 0, 2, 3, 4, 5), (False, 2, 3, 4, 5, 6),
                      (0, 2.0, 3, 4, 5, 6), (0, 2, 3, 4, 5, "6"), (0, 2, 3, 4, 5, None), ((0, 2), 3, 4, 5, 6, 6),
                      (1, 2, 3, 4, 5, 6), (0, 1, 2, 3, 4, 5), (0, 1, 2, 3, 4, 5, 6)):
            self.assertIs(is_bar(P2, ODD, value), False)
        self.assertIs(is_bar(P2, ODD, good), True)

    def test_more_powers_than_places(self):
        self.assertIs(is_bar(X, P2, (0, 1, 2)), False)
        self.assertIs(is_bar(X, X, (0, 1)), False)

    def test_zero_squares_of_greater_steps(self):
        rng = new_random(247)
        for one, other in ((composed(P2, H), composed(P2, step(0, 1, 1, 1))), (some_step(rng, 3), some_step(rng, 5))):
            places = list(bar_places(one, other))
            rows = powers(one, other)
            free = [place for place in range(len(rows[0])) if place not in places]
            for old in places:
                for new in free:
                    told = tuple(sorted([*[place for place in places if place != old], new]))
                    expected = determinant([[row[place] for place in told] for row in rows]) != 0
                    self.assertIs(is_bar(one, other, told), expected)

    def test_wrong_steps_in_their_order(self):
        for call in (common_whole, are_joined, bar_places, lambda *parts: is_bar(*parts, None)):
            for told in BAD_STEPS:
                self.assertEqual(refused(call, told, None), ("BadStep", told))
                self.assertEqual(refused(call, power(64), told), ("BadStep", told))

    def test_great_numbers(self):
        one = step(Fraction(1, GREAT), Fraction(2, GREAT), Fraction(1, GREAT - 1))
        other = step(*[Fraction(3 * k + 1, GREAT - k) for k in range(4)])
        self.assertIsNone(common_whole(one, other))
        self.assertIs(is_bar(one, other, bar_places(one, other)), True)
        odd = step(0, Fraction(1, GREAT), 0, GREAT)
        ahead, behind, told = common_whole(P2, odd)
        self.assertEqual(composed(P2, ahead), told)
        self.assertEqual(composed(odd, behind), told)

    def test_all_first_parts_of_a_row(self):
        both = composed(H, P2, P3)
        for one in (H, composed(H, P2), composed(H, P3), both):
            for other in (H, composed(H, P2), composed(H, P3), both):
                told = common_whole(one, other)[2]
                self.assertTrue(is_plain(told))
                self.assertIsNotNone(last_behind(both, told))


if __name__ == "__main__":
    unittest.main()
