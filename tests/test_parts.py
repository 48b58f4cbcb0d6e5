"""Points [11] and [12]: all first parts, and common ones."""

import unittest
from fractions import Fraction
from math import gcd, lcm

import oracle
from oracle import (
    BAD_STEPS, GREAT, X, composed, new_random, power, refused, same, some_step, step,
)
from stepswithin.parts import are_apart, common_first, covers, first_degrees, first_parts, joining, meeting
from stepswithin.steps import is_plain, plained

H = step(0, 1, 1)
TWICE = step(0, 1, 2, 2, 1)
LONE = step(0, 0, 0, 1, 1)


def some_steps(seed, count):
    """Return random steps with parts and without."""
    rng = new_random(seed)
    found = [X, step(4, -3), H, LONE, TWICE, power(12), power(7), composed(step(1, 1), power(12), step(2, 3))]
    for _ in range(count):
        found.append(some_step(rng, rng.choice((2, 3, 4, 6, 8, 12))))
        found.append(composed(*[some_step(rng, rng.choice((1, 2, 2, 3)), 3, 2) for _ in range(3)]))
        found.append(composed(*oracle.power_pair(rng, 2, 1, 1)))
    return found


class FirstParts(unittest.TestCase):
    def test_examples(self):
        self.assertTrue(same(first_degrees(power(6)), (1, 2, 3, 6)))
        self.assertEqual(covers(power(6)), ((0, 1), (0, 2), (1, 3), (2, 3)))
        self.assertEqual(first_parts(power(6)), (X, power(2), power(3), power(6)))
        self.assertEqual(first_degrees(TWICE), (1, 2, 4))
        self.assertEqual(first_parts(TWICE), (X, H, TWICE))

    def test_straight_prime_and_lone_steps(self):
        self.assertEqual(first_degrees(step(5, 7)), (1,))
        self.assertEqual(first_parts(step(5, 7)), (X,))
        self.assertEqual(covers(step(5, 7)), ())
        self.assertEqual(first_degrees(step(1, 2, 3, 4, 5, 6)), (1, 5))
        self.assertEqual(first_parts(step(1, 2)), (X,))
        self.assertEqual(covers(step(1, 2, 3, 4, 5, 6)), ((0, 1),))
        self.assertEqual(first_degrees(LONE), (1, 4))
        self.assertEqual(first_parts(step(3, 0, 0, 2, 2)), (X, LONE))

    def test_powers_have_parts_of_all_degrees(self):
        for size in range(1, 65):
            divisors = tuple(d for d in range(1, size + 1) if size % d == 0)
            self.assertEqual(first_degrees(power(size)), divisors)
            self.assertEqual(first_parts(power(size)), tuple(power(d) for d in divisors))

    def test_against_long_division(self):
        for told in some_steps(41, 15):
            degrees = oracle.degrees(told)
            self.assertTrue(same(first_degrees(told), tuple(degrees)))
            self.assertTrue(same(first_parts(told), tuple(oracle.candidate(told, d) for d in degrees)))
            self.assertTrue(all(is_plain(part) for part in first_parts(told)))
            self.assertEqual(first_parts(told)[-1], plained(told)[0])

    def test_rows_give_degrees(self):
        rng = new_random(42)
        for _ in range(20):
            row = [some_step(rng, rng.choice((2, 3)), 3, 1) for _ in range(3)]
            degrees = first_degrees(composed(*row))
            self.assertGreaterEqual(len(degrees), 4)
            size = 1
            for told in row:
                size *= len(told) - 1
                self.assertIn(size, degrees)

    def test_covers_by_definition(self):
        for told in some_steps(43, 10):
            parts = first_parts(told)
            inside = {(i, j) for i, low in enumerate(parts) for j, high in enumerate(parts)
                      if i != j and oracle.last_behind(high, low) is not None}
            direct = [(i, j) for i, j in inside if not any((i, k) in inside and (k, j) in inside
                                                           for k in range(len(parts)))]
            self.assertTrue(same(covers(told), tuple(sorted(direct))))

    def test_greatest_degree(self):
        told = composed(step(1, 2, 1), step(0, 1, 3), power(16))
        self.assertEqual(first_degrees(told), (1, 2, 4, 8, 16, 32, 64))
        self.assertEqual(first_degrees(step(*range(1, 66))), (1, 64))

    def test_wrong_steps(self):
        for told in BAD_STEPS:
            for call in (first_degrees, first_parts, covers):
                self.assertEqual(refused(call, told), ("BadStep", told))


class MeetingJoining(unittest.TestCase):
    def test_all_pairs_of_degrees(self):
        for told in (power(12), power(60), TWICE, X, LONE, composed(*oracle.power_pair(new_random(44), 3, 1, 1))):
            parts = {len(part) - 1: part for part in first_parts(told)}
            for one in parts:
                for other in parts:
                    self.assertTrue(same(meeting(told, one, other), parts[gcd(one, other)]))
                    self.assertTrue(same(joining(told, one, other), parts[lcm(one, other)]))

    def test_wrong_parameters_in_their_order(self):
        for call in (meeting, joining):
            for told in BAD_STEPS:
                self.assertEqual(refused(call, told, None, None), ("BadStep", told))
            for degree in (None, True, 0, -1, -2, 3, 8, "2", 2.0, (2,), Fraction(2), GREAT):
                self.assertEqual(refused(call, TWICE, degree, None), ("BadParameter", degree))
                self.assertEqual(refused(call, TWICE, 2, degree), ("BadParameter", degree))
            self.assertEqual(refused(call, LONE, 2, 7), ("BadParameter", 2))
            self.assertEqual(refused(call, LONE, 1, 2), ("BadParameter", 2))
            self.assertEqual(refused(call, X, 1, True), ("BadParameter", True))


class Common(unittest.TestCase):
    def test_examples(self):
        found = common_first(step(0, 0, 1, 0, 1), power(6))
        self.assertTrue(same(found, (power(2), H, power(3))))
        self.assertEqual(common_first(TWICE, power(4)), (X, TWICE, power(4)))
        self.assertIs(are_apart(TWICE, power(4)), True)
        self.assertIs(are_apart(step(0, 0, 1, 0, 1), power(6)), False)

    def test_a_step_and_itself(self):
        for told in (X, step(2, 3), H, LONE, step(5, 0, 0, 2, 2), power(64)):
            plain, straight = plained(told)
            self.assertEqual(common_first(told, told), (plain, straight, straight))
            self.assertEqual(common_first(told, plain), (plain, straight, X))
            self.assertIs(are_apart(told, told), len(told) == 2)

    def test_straight_steps(self):
        self.assertEqual(common_first(step(1, 2), LONE), (X, step(1, 2), LONE))
        self.assertEqual(common_first(LONE, step(1, 2)), (X, LONE, step(1, 2)))
        self.assertIs(are_apart(step(1, 2), LONE), True)

    def test_common_part_of_wholes(self):
        rng = new_random(45)
        for _ in range(40):
            first = some_step(rng, rng.randint(1, 3), 3, 2)
            one, other = [some_step(rng, rng.randint(1, 4), 3, 2) for _ in range(2)]
            behind = common_first(one, other)[0]
            found = common_first(composed(first, one), composed(first, other))
            self.assertEqual(found[0], plained(composed(first, behind))[0])
            self.assertTrue(same(composed(found[0], found[1]), composed(first, one)))
            self.assertTrue(same(composed(found[0], found[2]), composed(first, other)))

    def test_against_all_first_parts(self):
        steps = some_steps(46, 3)
        for one in steps:
            for other in steps:
                shared = [part for part in first_parts(one) if part in first_parts(other)]
                found = common_first(one, other)
                self.assertEqual(found[0], shared[-1])
                self.assertEqual(found[1], oracle.last_behind(one, shared[-1]))
                self.assertEqual(found[2], oracle.last_behind(other, shared[-1]))
                self.assertIs(are_apart(one, other), shared == [X])
                self.assertEqual(first_parts(found[0]), tuple(shared))

    def test_parts_of_one_degree_that_are_unlike(self):
        one, other = power(4), composed(H, power(2))
        self.assertEqual(common_first(one, other), (X, one, other))
        other = composed(power(2), H)
        self.assertEqual(common_first(one, other), (power(2), power(2), H))

    def test_one_candidate_that_is_no_part(self):
        one = composed(step(0, 2, -1, 1), step(0, 1, 1))
        near = (one[0], (one[1][0] + 1, 1), *one[2:])
        self.assertEqual(oracle.candidate(one, 3), oracle.candidate(near, 3))
        self.assertEqual(common_first(one, near)[0], X)
        self.assertEqual(common_first(near, one)[0], X)

    def test_wrong_parameters_in_their_order(self):
        for call in (common_first, are_apart):
            for told in BAD_STEPS:
                self.assertEqual(refused(call, told, None), ("BadStep", told))
                self.assertEqual(refused(call, H, told), ("BadStep", told))


if __name__ == "__main__":
    unittest.main()
