"""Points [22] and [23]: roots of a doing, common doings."""

import unittest
from fractions import Fraction

from oracle import (
    BAD_COUNTS, BAD_NUMBERS, BAD_STEPS, GREAT, X, back, composed, new_random, pair, power, refused, same, some_number,
    some_step, step,
)
from stepswithin.again import (
    common_again, common_break, is_common_break, is_root_break, most_times, root_break, root_degree, root_heads,
    root_try, roots_of,
)
from stepswithin.kinds import dickson
from stepswithin.modulo import PRIME

H = step(0, 1, 1)
TWICE = step(0, 1, 2, 2, 1)
ONE = (1, 1)
BAD_TIMES = BAD_COUNTS + [0, 61, GREAT]
ALMOST = 10 ** 50


def tried(told, times, head):
    """Return the try of a root, one number after the other: each is told by the wholes with 0 and with 1 in its place."""
    size = len(told) - 1
    degree = next(d for d in range(2, 65) if d ** times == size)
    found = [Fraction(0)] * degree + [head]
    for place in range(1, degree + 1):
        ends = []
        for number in (0, 1):
            found[degree - place] = Fraction(number)
            ends.append(Fraction(*composed(*[step(*found)] * times)[size - place]))
        found[degree - place] = (Fraction(*told[size - place]) - ends[0]) / (ends[1] - ends[0])
    return step(*found)


def greatest(one, other):
    """Return the greatest power at which two steps of one degree are unlike, or None."""
    return max((k for k in range(len(one)) if one[k] != other[k]), default=None)


def told_round(straight, told):
    """Return a step told by another letter."""
    return composed(back(straight), told, straight)


class Degrees(unittest.TestCase):
    def test_roots_of_degrees(self):
        for size in range(2, 65):
            for times in (1, 2, 3, 4, 5, 6, 7, 60):
                found = [degree for degree in range(2, 65) if degree ** times == size]
                if found:
                    self.assertTrue(same(root_degree(power(size), times), found[0]))
                else:
                    self.assertEqual(refused(root_degree, power(size), times), ("NoRow",))


class Heads(unittest.TestCase):
    def test_none_one_two(self):
        self.assertTrue(same(root_heads(TWICE, 2), (ONE,)))
        self.assertTrue(same(root_heads(power(9), 2), ((-1, 1), ONE)))
        self.assertEqual(root_heads(step(*[0] * 9, "16/81"), 2), ((-2, 3), (2, 3)))
        self.assertEqual(root_heads(step(*[0] * 9, -16), 2), ())
        self.assertEqual(root_heads(step(*[0] * 9, 4), 2), ())
        self.assertEqual(root_heads(step(*[0] * 4, "-8/27"), 2), ((-2, 3),))
        self.assertEqual(root_heads(step(*[0] * 4, 2), 2), ())
        self.assertEqual(root_heads(step(*[0] * 27, 2 ** 13), 3), ((2, 1),))
        self.assertEqual(root_heads(step(*[0] * 64, -2 ** 63), 6), ((-2, 1),))
        self.assertEqual(root_heads(step(*[0] * 49, 2 ** 8), 2), ((-2, 1), (2, 1)))

    def test_without_a_degree(self):
        self.assertEqual(root_heads(power(6), 2), ())
        self.assertEqual(root_heads(power(8), 2), ())
        self.assertEqual(root_heads(power(64), 60), ())

    def test_once(self):
        self.assertEqual(root_heads(step(1, 2, "-3/7"), 1), ((-3, 7),))


class Tries(unittest.TestCase):
    def test_against_the_numbers_one_by_one(self):
        rng = new_random(221)
        for size, times in ((4, 2), (8, 3), (9, 2), (16, 2), (16, 4), (25, 2), (3, 1), (5, 1), (27, 3)):
            for head in (1, -1):
                told = (*some_step(rng, size, 3, 2)[:-1], (head, 1))
                for number in root_heads(told, times):
                    expected = tried(told, times, Fraction(*number))
                    self.assertTrue(same(root_try(told, times, number), expected))
                    place = greatest(composed(*[expected] * times), told)
                    found = refused(root_break, told, times, number)
                    self.assertTrue(same(None if found == ("NoRow",) else root_break(told, times, number), place))
                    for value in range(-1, size + 1):
                        self.assertIs(is_root_break(told, times, number, value), value == place)

    def test_breaks_near_a_root(self):
        rng = new_random(222)
        for size, times in ((2, 2), (2, 3), (3, 2), (4, 2), (2, 4), (5, 2)):
            root = (*some_step(rng, size, 3, 2)[:-1], ONE)
            told = composed(*[root] * times)
            self.assertEqual(root_try(told, times, ONE), root)
            self.assertEqual(refused(root_break, told, times, ONE), ("NoRow",))
            for place in range(len(told) - 1 - size):
                for more in (1, PRIME, Fraction(1, PRIME)):
                    near = list(told)
                    near[place] = pair(Fraction(*near[place]) + more)
                    self.assertEqual(root_try(tuple(near), times, ONE), root)
                    self.assertTrue(same(root_break(tuple(near), times, ONE), place))
                    self.assertEqual([one for one in roots_of(tuple(near), times) if one[-1] == ONE], [])
            both = list(told)
            both[0], both[1] = pair(Fraction(*told[0]) + 1), pair(Fraction(*told[1]) + PRIME)
            if len(told) - 1 - size > 1:
                self.assertEqual(root_break(tuple(both), times, ONE), 1)

    def test_values_of_any_kind(self):
        near = (*TWICE[:1], (2, 1), *TWICE[2:])
        self.assertEqual(root_break(near, 2, ONE), 1)
        for value in (True, 1.0, "1", None, (1,), [1], Fraction(1), -1, 0, 2):
            self.assertIs(is_root_break(near, 2, ONE, value), False)
        self.assertIs(is_root_break(near, 2, ONE, 1), True)
        for value in (None, 0, 1, ()):
            self.assertIs(is_root_break(TWICE, 2, ONE, value), False)

    def test_once_it_is_the_step(self):
        told = step(1, 2, "-3/7")
        self.assertEqual(root_try(told, 1, (-3, 7)), told)
        self.assertEqual(refused(root_break, told, 1, (-3, 7)), ("NoRow",))


class Roots(unittest.TestCase):
    def test_examples(self):
        self.assertTrue(same(roots_of(TWICE, 2), (H,)))
        self.assertTrue(same(most_times(TWICE), 2))
        self.assertEqual(roots_of(power(9), 2), (step(0, 0, 0, -1), power(3)))

    def test_planted_roots(self):
        rng = new_random(223)
        for size, times in ((2, 2), (2, 3), (2, 4), (3, 2), (3, 3), (4, 2), (4, 3), (5, 2), (7, 2), (8, 2), (2, 5), (2, 6)):
            root = some_step(rng, size, 3, 2) if size ** times < 30 else (*some_step(rng, size, 2, 1)[:-1], (-1, 1))
            told = composed(*[root] * times)
            if max(abs(part) for number in told for part in number) > GREAT:
                continue
            found = roots_of(told, times)
            self.assertIn(root, found)
            for one in found:
                self.assertEqual(composed(*[one] * times), told)
            self.assertLessEqual(len(found), 2)
            self.assertGreaterEqual(most_times(told), times)
            for part in range(1, times + 1):
                self.assertEqual(roots_of(told, part) != (), times % part == 0 or part == most_times(told))

    def test_none(self):
        self.assertEqual(roots_of(TWICE, 3), ())
        self.assertEqual(roots_of(TWICE, 60), ())
        self.assertEqual(roots_of(power(6), 2), ())
        self.assertEqual(roots_of(step(1, 0, 0, 0, 1), 2), ())
        self.assertEqual(roots_of(step(0, 0, 0, 0, 2), 2), ())
        self.assertEqual(roots_of(step(*[0] * 9, -1), 2), ())
        self.assertEqual(roots_of(TWICE, 1), (TWICE,))

    def test_two_told_by_any_letter(self):
        rng = new_random(224)
        for told, root in ((power(9), power(3)), (dickson(9, ONE), dickson(3, ONE)), (power(25), power(5))):
            straight = step(some_number(rng, 2, 1), rng.choice((1, -1)))
            found = roots_of(told_round(straight, told), 2)
            other = told_round(straight, composed(root, step(0, -1)))
            self.assertEqual(set(found), {told_round(straight, root), other})
            self.assertEqual(found[0][-1], (-1, 1))
            self.assertEqual(found[1][-1], ONE)

    def test_most_times(self):
        for told, most in ((power(2), 1), (power(4), 2), (power(64), 6), (power(27), 3), (power(49), 2), (power(60), 1),
                           (dickson(32, ONE), 5), (step(1, 0, 0, 0, 1), 1), (step(*[0] * 27, -1), 3),
                           (step(*[0] * 9, -1), 1), (step(*[0] * 64, -8), 1), (composed(H, H, H), 3)):
            self.assertTrue(same(most_times(told), most))

    def test_some_times_without_the_most(self):
        root = composed(H, H)
        self.assertEqual(roots_of(composed(root, root), 4), (H,))
        self.assertEqual(roots_of(composed(root, root), 2), (root,))
        self.assertEqual(roots_of(composed(root, root), 3), ())

    def test_each_root_commutes(self):
        root = step(1, -2, 3)
        self.assertEqual(composed(root, composed(root, root)), composed(composed(root, root), root))


class RootsRefused(unittest.TestCase):
    def calls(self):
        """Return all functions of a step and a number of times, as functions of these two alone."""
        return (root_degree, root_heads, roots_of, lambda told, times: root_try(told, times, None),
                lambda told, times: root_break(told, times, None),
                lambda told, times: is_root_break(told, times, None, None))

    def test_steps_and_times(self):
        for call in self.calls():
            for told in BAD_STEPS:
                self.assertEqual(refused(call, told, None), ("BadStep", told))
            for told in (X, step(1, "1/2")):
                self.assertEqual(refused(call, told, None), ("BadParameter", told))
            for times in BAD_TIMES:
                found = refused(call, power(64), times)
                self.assertEqual(found[0], "BadParameter")
                self.assertIs(found[1], times)
        for told in BAD_STEPS:
            self.assertEqual(refused(most_times, told), ("BadStep", told))
        self.assertEqual(refused(most_times, X), ("BadParameter", X))
        self.assertEqual(roots_of(H, 60), ())

    def test_heads(self):
        for call in (root_try, root_break, lambda *parts: is_root_break(*parts, 0)):
            for head in BAD_NUMBERS:
                self.assertEqual(refused(call, power(6), 2, head), ("BadNumber", head))
            for head in ((2, 1), (-1, 1), (0, 1)):
                self.assertEqual(refused(call, TWICE, 2, head), ("BadParameter", head))
            self.assertEqual(refused(call, power(6), 2, ONE), ("BadParameter", ONE))
            self.assertEqual(refused(call, TWICE, 60, ONE), ("BadParameter", ONE))


class Common(unittest.TestCase):
    def none(self, one, other, why):
        """Ask that no doing is common, for a reason."""
        self.assertIsNone(common_again(one, other))
        self.assertTrue(same(common_break(one, other), why))
        self.assertIs(is_common_break(one, other, why), True)
        if why[0] == "again":
            left, right = composed(*[one] * why[1]), composed(*[other] * why[2])
            self.assertEqual(greatest(left, right), why[3])
            self.assertIs(is_common_break(one, other, (*why[:3], why[3] + 1)), False)

    def some(self, one, other, times):
        """Ask that there is a common doing."""
        self.assertTrue(same(common_again(one, other), times))
        self.assertEqual(refused(common_break, one, other), ("NoRow",))
        self.assertEqual(composed(*[one] * times[0]), composed(*[other] * times[1]))
        self.assertIs(is_common_break(one, other, ("degrees",)), False)
        self.assertIs(is_common_break(one, other, None), False)

    def test_examples(self):
        self.some(power(3), step(0, 0, 0, -1), (2, 2))
        self.some(power(2), power(4), (2, 1))
        self.none(power(2), step(1, 0, 1), ("again", 1, 1, 0))
        self.none(power(2), power(3), ("degrees",))
        self.none(power(2), step(0, 0, 2), ("heads",))

    def test_planted_ones(self):
        rng = new_random(225)
        for size in (2, 2, 2, 3, 3, 5):
            root = some_step(rng, size, 3, 2)
            for low in range(1, 4):
                for high in range(1, 4):
                    one, other = composed(*[root] * low), composed(*[root] * high)
                    if size ** max(low, high) > 64 or size ** (low * high) > 256:
                        continue
                    shared = 1 if low != high else low
                    if max(abs(part) for number in one + other for part in number) <= GREAT:
                        self.some(one, other, (high // shared, low // shared))

    def test_same_steps(self):
        for told in (H, step(1, -2, "3/2"), power(64), dickson(17, ONE)):
            self.some(told, told, (1, 1))

    def test_powers_told_by_another_letter(self):
        for shift, factor in ((1, 1), (-2, 3), (0, -2)):
            straight = step(shift, factor)
            one, other = told_round(straight, power(2)), told_round(straight, power(4))
            self.some(one, other, (2, 1))
            self.some(other, told_round(straight, power(8)), (3, 2))
            near = (pair(Fraction(*other[0]) + 1), *other[1:])
            self.none(one, near, ("again", 2, 1, 0))

    def test_opposite_heads(self):
        self.some(power(9), step(0, 0, 0, -1), (1, 2))
        self.some(step(*[0] * 9, -1), power(3), (2, 4))
        self.none(power(2), step(0, 0, -1), ("heads",))
        self.none(power(4), step(0, 0, -1), ("heads",))
        self.none(step(0, 0, -1), step(0, 0, 0, 0, 1), ("heads",))
        self.some(step(0, 0, -1), step(0, 0, 0, 0, -1), (2, 1))
        self.some(dickson(5, ONE), composed(dickson(5, ONE), step(0, -1)), (2, 2))
        self.none(step(0, 1, 0, 1), step(0, 2, 0, -1), ("again", 2, 2, 7))
        self.none(step(0, 0, 0, 1), step(1, 0, 0, -1), ("again", 2, 2, 6))

    def test_heads(self):
        self.some(step(0, 0, "2/3"), step(0, 0, 0, 0, "8/27"), (2, 1))
        self.none(step(0, 0, "2/3"), step(0, 0, 0, 0, "4/9"), ("heads",))
        self.none(step(0, 0, 0, 2), step(0, 0, 0, -4), ("heads",))
        self.none(step(*[0] * 32, 2), power(64), ("heads",))

    def test_degrees_without_any_whole(self):
        for low, high in ((2, 3), (6, 12), (60, 64), (36, 48), (2, 63)):
            self.none(power(low), power(high), ("degrees",))

    def test_too_great_wholes(self):
        for one, other in ((power(32), power(64)), (power(8), power(16)), (power(27), power(9)),
                           (step(0, 0, 0, 0, 1), power(32)), (power(17), step(*[0] * 17, -1)), (power(64), power(32))):
            for call in (common_again, common_break, lambda *parts: is_common_break(*parts, ("degrees",))):
                self.assertEqual(refused(call, one, other), ("TooGreat", 256))

    def test_greatest_wholes(self):
        self.some(power(4), power(16), (2, 1))
        self.some(power(16), power(16), (1, 1))
        self.some(power(15), step(*[0] * 15, -1), (2, 2))
        self.none(power(64), step(1, *[0] * 63, 1), ("again", 1, 1, 0))
        self.none(step(*[0] * 32, 1), step(*[0] * 31, 1, 1), ("again", 1, 1, 31))

    def test_breaks_that_a_prime_cannot_see(self):
        self.none(step(0, PRIME, 1), step(1, 0, 1), ("again", 1, 1, 1))
        self.none(step(0, 0, Fraction(1, PRIME), 1), power(3), ("again", 1, 1, 2))
        self.none(step(0, 0, PRIME, 0, 1), power(2), ("again", 1, 2, 2))
        self.some(step(0, 0, Fraction(1, PRIME)), step(0, 0, 0, 0, Fraction(1, PRIME ** 3)), (2, 1))

    def test_against_both_doings(self):
        rng = new_random(226)
        for _ in range(60):
            low, high = rng.choice(((1, 1), (2, 1), (1, 2)))
            one = (*some_step(rng, 2 if low == 2 else 4, 1, 1)[:-1], ONE)
            other = (*some_step(rng, 2 if high == 2 else 4, 1, 1)[:-1], ONE)
            place = greatest(composed(*[one] * low), composed(*[other] * high))
            if place is None:
                self.some(one, other, (low, high))
            else:
                self.none(one, other, ("again", low, high, place))

    def test_values_of_any_kind(self):
        one, other = power(2), step(1, 0, 1)
        for value in (None, "again", ("again",), ("again", 1, 1), ("again", 1, 1, 0, 0), ["again", 1, 1, 0],
                      ("again", True, 1, 0), ("again", 1.0, 1, 0), ("again", 1, 1, False), ("again", 1, 1, 1), (),
                      ("again", 2, 2, 0), ("heads",), ("degrees",), (1, 1, 1, 0), ("again", 1, 1, None), 5):
            self.assertIs(is_common_break(one, other, value), False)
        for value in ("heads", ["heads"], ("heads", 1), ("degrees",), (True,), None):
            self.assertIs(is_common_break(power(2), step(0, 0, 2), value), False)
        for value in (("heads",), ("degree",), "degrees", (("degrees",),)):
            self.assertIs(is_common_break(power(2), power(3), value), False)

    def test_wrong_steps_in_their_order(self):
        for call in (common_again, common_break, lambda *parts: is_common_break(*parts, None)):
            for told in BAD_STEPS:
                self.assertEqual(refused(call, told, None), ("BadStep", told))
                self.assertEqual(refused(call, X, told), ("BadParameter", X))
                self.assertEqual(refused(call, H, told), ("BadStep", told))
            self.assertEqual(refused(call, step(1, 2), None), ("BadParameter", step(1, 2)))
            self.assertEqual(refused(call, H, step(1, 2)), ("BadParameter", step(1, 2)))


if __name__ == "__main__":
    unittest.main()
