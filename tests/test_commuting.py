"""Point [21]: steps that commute with a step."""

import unittest
from fractions import Fraction

from oracle import (
    BAD_COUNTS, BAD_NUMBERS, BAD_STEPS, GREAT, X, back, composed, fractions_of, new_random, pair, power, refused, same,
    some_number, some_step, step,
)
from stepswithin.commuting import (
    commutes, commuting_break, commuting_degrees, commuting_heads, commuting_try, commuting_with, is_commuting_break,
)
from stepswithin.doing import again
from stepswithin.kinds import dickson
from stepswithin.modulo import PRIME

H = step(0, 1, 1)
ONE = (1, 1)
BAD_DEGREES = BAD_COUNTS + [0, 65, GREAT]
GRID = sorted({Fraction(sign * top, bottom) for sign in (1, -1) for top in range(1, 10) for bottom in range(1, 10)})


def tried(told, degree, head):
    """Return the try, one number after the other: each is told by the wholes with 0 and with 1 in its place."""
    size = len(told) - 1
    found = [Fraction(0)] * degree + [head]
    for place in range(1, degree + 1):
        gaps = []
        for number in (0, 1):
            found[degree - place] = Fraction(number)
            gaps.append(gap(told, step(*found), size * degree - place))
        found[degree - place] = gaps[0] / (gaps[0] - gaps[1])
    return step(*found)


def gap(one, other, place):
    """Return by how much the wholes of two steps in both orders differ at a power of X."""
    left, right = composed(one, other), composed(other, one)
    return Fraction(*left[place]) - Fraction(*right[place])


def break_of(one, other):
    """Return the greatest power at which the wholes of two steps in both orders are unlike, or None."""
    left, right = composed(one, other), composed(other, one)
    return max((k for k in range(len(left)) if left[k] != right[k]), default=None)


def seen_break(told, degree, head):
    """Return what `commuting_break` returns, or None for its NoRow."""
    found = refused(commuting_break, told, degree, head)
    return None if found == ("NoRow",) else commuting_break(told, degree, head)


class Commutes(unittest.TestCase):
    def test_which_do(self):
        self.assertIs(commutes(power(2), power(3)), True)
        self.assertIs(commutes(H, again(H, 3)), True)
        self.assertIs(commutes(H, power(2)), False)
        self.assertIs(commutes(X, H), True)
        self.assertIs(commutes(H, X), True)
        self.assertIs(commutes(step(1, 1), step("-7/2", 1)), True)
        self.assertIs(commutes(step(1, 1), step(1, 2)), False)
        self.assertIs(commutes(step(0, -1), power(3)), True)
        self.assertIs(commutes(step(0, -1), power(2)), False)

    def test_against_both_wholes(self):
        rng = new_random(211)
        for _ in range(60):
            one, other = some_step(rng, rng.randint(1, 4), 2, 1), some_step(rng, rng.randint(1, 4), 2, 1)
            self.assertIs(commutes(one, other), composed(one, other) == composed(other, one))

    def test_told_by_any_letter(self):
        rng = new_random(212)
        for low, high in ((2, 3), (3, 5), (4, 4), (2, 7)):
            straight = some_step(rng, 1)
            for first, last in ((power(low), power(high)), (dickson(low, ONE), dickson(high, ONE))):
                one, other = composed(back(straight), first, straight), composed(back(straight), last, straight)
                self.assertIs(commutes(one, other), True)
                self.assertIs(commutes(one, (pair(Fraction(*other[0]) + Fraction(1, 10 ** 50)), *other[1:])), False)

    def test_products_of_degrees(self):
        self.assertIs(commutes(power(64), power(4)), True)
        self.assertIs(commutes(power(16), power(16)), True)
        self.assertEqual(refused(commutes, power(64), power(5)), ("TooGreat", 256))
        self.assertEqual(refused(commutes, power(43), power(6)), ("TooGreat", 256))
        self.assertIs(commutes(power(51), power(5)), True)

    def test_what_a_prime_cannot_see(self):
        self.assertIs(commutes(power(2), step(0, 0, PRIME, 1)), False)
        self.assertIs(commutes(step(0, 0, "1/2305843009213693951"), step(0, 0, 0, 1)), False)
        one = step(0, 0, Fraction(1, PRIME))
        self.assertIs(commutes(one, step(0, 0, 0, Fraction(1, PRIME ** 2))), True)

    def test_wrong_steps_in_their_order(self):
        for told in BAD_STEPS:
            self.assertEqual(refused(commutes, told, None), ("BadStep", told))
            self.assertEqual(refused(commutes, power(64), told), ("BadStep", told))


class Heads(unittest.TestCase):
    def test_examples(self):
        self.assertTrue(same(commuting_heads(H, 2), (ONE,)))
        self.assertTrue(same(commuting_heads(H, 3), (ONE,)))
        self.assertTrue(same(commuting_heads(power(3), 1), ((-1, 1), ONE)))

    def test_none_one_two(self):
        self.assertEqual(commuting_heads(step(0, 0, 0, 2), 2), ())
        self.assertEqual(commuting_heads(step(0, 0, 0, 2), 3), ((-2, 1), (2, 1)))
        self.assertEqual(commuting_heads(step(0, 0, 0, -2), 2), ())
        self.assertEqual(commuting_heads(step(0, 0, 0, -2), 3), ((-2, 1), (2, 1)))
        self.assertEqual(commuting_heads(step(0, 0, "-2/3"), 3), ((4, 9),))
        self.assertEqual(commuting_heads(step(0, 0, "-2/3"), 2), ((-2, 3),))
        self.assertEqual(commuting_heads(step(0, 0, 0, 0, "-8/27"), 2), ((-2, 3),))
        self.assertEqual(commuting_heads(step(0, 0, 0, "4/9"), 2), ((-2, 3), (2, 3)))
        self.assertEqual(commuting_heads(step(0, 0, 0, 0, 2), 2), ())
        self.assertEqual(commuting_heads(step(0, 0, 0, 0, 2), 4), ((2, 1),))

    def test_all_of_a_grid(self):
        rng = new_random(213)
        for _ in range(150):
            told, degree = some_step(rng, rng.randint(2, 6), 9, 3), rng.randint(1, 5)
            size, head = len(told) - 2, Fraction(*told[-1])
            found = [Fraction(*number) for number in commuting_heads(told, degree)]
            for number in found:
                self.assertEqual(number ** size, head ** (degree - 1))
            self.assertEqual([number for number in found if number in GRID],
                             [number for number in GRID if number ** size == head ** (degree - 1)])

    def test_great_ones(self):
        self.assertEqual(commuting_heads(step(0, 0, GREAT), 64), ((GREAT ** 63, 1),))
        self.assertEqual(commuting_heads(step(0, 0, 0, 0, Fraction(-1, GREAT)), 64), ((-1, GREAT ** 21),))


class Tries(unittest.TestCase):
    def test_example(self):
        self.assertTrue(same(commuting_try(H, 2, ONE), H))
        self.assertTrue(same(commuting_try(H, 3, ONE), step("-3/16", "9/8", "3/2", 1)))
        self.assertTrue(same(commuting_break(H, 3, ONE), 2))
        self.assertEqual(commuting_try(power(3), 1, (-1, 1)), step(0, -1))

    def test_against_the_numbers_one_by_one(self):
        rng = new_random(214)
        seen = 0
        for _ in range(60):
            told, degree = some_step(rng, rng.randint(2, 4), 4, 3), rng.randint(1, 6)
            if rng.random() < 0.5:
                told = (*told[:-1], rng.choice((ONE, (-1, 1))))
            for head in commuting_heads(told, degree):
                expected = tried(told, degree, Fraction(*head))
                self.assertTrue(same(commuting_try(told, degree, head), expected))
                place = break_of(told, expected)
                self.assertTrue(same(seen_break(told, degree, head), place))
                for value in range(-1, 25):
                    self.assertIs(is_commuting_break(told, degree, head, value), value == place)
                seen += 1
        self.assertGreater(seen, 40)

    def test_sparse_ones(self):
        for told in (step(1, 0, 1), step(0, 0, 0, 1, 1), step(2, 0, 0, 0, -1), step(0, 1, 0, -1), step(-1, 0, 0, 0, 4)):
            for degree in range(1, 6):
                for head in commuting_heads(told, degree):
                    expected = tried(told, degree, Fraction(*head))
                    self.assertEqual(commuting_try(told, degree, head), expected)
                    self.assertEqual(seen_break(told, degree, head), break_of(told, expected))

    def test_break_below_the_numbers_that_are_told(self):
        for told, degree, head in ((H, 3, ONE), (step(1, 0, 1), 6, ONE), (step(0, 1, 0, 1), 3, (-1, 1))):
            place = seen_break(told, degree, head)
            self.assertTrue(place is None or place < (len(told) - 2) * degree)

    def test_values_of_any_kind(self):
        for value in (True, 2.0, "2", None, (2,), [2], -2, Fraction(2), (ONE, 2), 3, 1):
            self.assertIs(is_commuting_break(H, 3, ONE, value), False)
        self.assertIs(is_commuting_break(H, 3, ONE, 2), True)
        for value in (0, 1, 2, 3, 4, None, ()):
            self.assertIs(is_commuting_break(H, 2, ONE, value), False)

    def test_breaks_that_a_prime_cannot_see(self):
        told = step(0, 0, 0, 0, 1)
        for number in (PRIME, PRIME ** 2):
            near = step(0, number, 0, 0, 1)
            expected = tried(near, 2, Fraction(1))
            self.assertEqual(commuting_try(near, 2, ONE), expected)
            self.assertEqual(commuting_break(near, 2, ONE), break_of(near, expected))
            self.assertEqual(commuting_with(near, 2), ())
        self.assertEqual(refused(commuting_break, told, 2, ONE), ("NoRow",))
        over = step(1, Fraction(1, PRIME), 1)
        self.assertEqual(commuting_break(over, 3, ONE), break_of(over, tried(over, 3, Fraction(1))))
        self.assertEqual(commuting_with(over, 2), (over,))
        self.assertEqual(commuting_with(over, 3), ())

    def test_great_degrees(self):
        self.assertEqual(commuting_try(power(4), 64, ONE), power(64))
        self.assertEqual(refused(commuting_break, power(4), 64, ONE), ("NoRow",))
        self.assertEqual(commuting_try(H, 64, ONE), again(H, 6))
        self.assertEqual(refused(commuting_break, H, 64, ONE), ("NoRow",))
        self.assertEqual(commuting_break(H, 63, ONE), 62)
        self.assertEqual(commuting_try(power(64), 4, ONE), power(4))
        dense = step(*range(1, 65), 1)
        self.assertEqual(commuting_break(dense, 4, ONE), break_of(dense, commuting_try(dense, 4, ONE)))


class With(unittest.TestCase):
    def test_examples(self):
        self.assertTrue(same(commuting_with(H, 2), (H,)))
        self.assertEqual(commuting_with(H, 3), ())
        self.assertTrue(same(commuting_with(power(3), 1), (step(0, -1), X)))

    def test_powers_and_dicksons(self):
        for size in range(2, 9):
            for degree in range(1, 9):
                found = commuting_with(power(size), degree)
                self.assertIn(power(degree), found)
                self.assertEqual(len(found), 1 + (size % 2))
                self.assertIn(dickson(degree, ONE), commuting_with(dickson(size, ONE), degree))

    def test_two_in_ascending_order(self):
        self.assertEqual(commuting_with(power(3), 4), (step(0, 0, 0, 0, -1), power(4)))
        self.assertEqual(commuting_with(dickson(3, ONE), 3), (step(0, 3, 0, -1), dickson(3, ONE)))
        self.assertEqual(commuting_with(dickson(3, ONE), 2), (step(2, 0, -1), dickson(2, ONE)))
        self.assertEqual(commuting_with(step(0, 1, 0, 1), 1), (step(0, -1), X))
        self.assertEqual(commuting_with(step(0, 0, 0, 4), 3), (step(0, 0, 0, -4), step(0, 0, 0, 4)))
        self.assertEqual(commuting_with(step(0, 0, 0, 4), 2), (step(0, 0, -2), step(0, 0, 2)))

    def test_told_by_any_letter(self):
        rng = new_random(215)
        for _ in range(25):
            straight = some_step(rng, 1)
            kind, size, degree = rng.choice((0, 1)), rng.randint(2, 5), rng.randint(1, 6)
            one, other = (power(size), power(degree)) if kind else (dickson(size, ONE), dickson(degree, ONE))
            told = composed(back(straight), one, straight)
            found = commuting_with(told, degree)
            self.assertIn(composed(back(straight), other, straight), found)
            for with_it in found:
                self.assertEqual(composed(told, with_it), composed(with_it, told))
            self.assertEqual(len(found), len(commuting_with(one, degree)))

    def test_what_is_done_again(self):
        rng = new_random(216)
        for _ in range(15):
            told = some_step(rng, rng.randint(2, 3), 3, 2)
            self.assertIn(told, commuting_with(told, len(told) - 1))
            self.assertIn(composed(told, told), commuting_with(told, (len(told) - 1) ** 2))

    def test_exactly_those_of_the_tries(self):
        rng = new_random(217)
        for _ in range(40):
            told, degree = (*some_step(rng, rng.randint(2, 3), 2, 1)[:-1], ONE), rng.randint(1, 4)
            tries = [tried(told, degree, Fraction(*head)) for head in commuting_heads(told, degree)]
            expected = tuple(found for found in tries if break_of(told, found) is None)
            self.assertEqual(commuting_with(told, degree), expected)

    def test_great_heads(self):
        (found,) = commuting_with(step(0, 0, GREAT), 64)
        self.assertEqual(found, step(*[0] * 64, GREAT ** 63))


class Degrees(unittest.TestCase):
    def test_some(self):
        self.assertTrue(same(commuting_degrees(H, 64), (1, 2, 4, 8, 16, 32, 64)))
        self.assertEqual(commuting_degrees(H, 1), (1,))
        self.assertEqual(commuting_degrees(H, 63), (1, 2, 4, 8, 16, 32))
        self.assertEqual(commuting_degrees(power(4), 64), tuple(range(1, 65)))
        self.assertEqual(commuting_degrees(dickson(4, ONE), 64), tuple(range(1, 65)))
        self.assertEqual(commuting_degrees(step(1, 1, 0, 1), 30), (1, 3, 9, 27))
        self.assertEqual(commuting_degrees(step(0, 0, 0, 2), 9), (1, 3, 5, 7, 9))
        self.assertEqual(commuting_degrees(power(64), 4), (1, 2, 3, 4))
        self.assertEqual(commuting_degrees(composed(H, H), 16), (1, 2, 4, 8, 16))

    def test_against_each_degree(self):
        rng = new_random(218)
        for _ in range(20):
            told = some_step(rng, rng.randint(2, 4), 2, 2)
            expected = tuple(degree for degree in range(1, 13) if commuting_with(told, degree) != ())
            self.assertEqual(commuting_degrees(told, 12), expected)

    def test_where_a_prime_divides_what_is_below(self):
        self.assertEqual(commuting_degrees(step(0, Fraction(1, PRIME), 1), 8), (1, 2, 4, 8))
        self.assertEqual(commuting_degrees(step(0, 0, Fraction(1, PRIME)), 8), tuple(range(1, 9)))
        self.assertEqual(commuting_degrees(step(0, 0, PRIME), 8), tuple(range(1, 9)))
        self.assertEqual(commuting_with(step(1, 1, PRIME), 2), (step(1, 1, PRIME),))
        self.assertEqual(commuting_with(step(1, 1, 0, Fraction(4, PRIME ** 2)), 3), (step(1, 1, 0, Fraction(4, PRIME ** 2)),))


class Wrong(unittest.TestCase):
    def calls(self):
        """Return all functions of a step and a degree, as functions of these two alone."""
        return (commuting_heads, commuting_with, commuting_degrees,
                lambda told, degree: commuting_try(told, degree, None),
                lambda told, degree: commuting_break(told, degree, None),
                lambda told, degree: is_commuting_break(told, degree, None, None))

    def test_steps_ahead_of_degrees(self):
        for call in self.calls():
            for told in BAD_STEPS:
                self.assertEqual(refused(call, told, None), ("BadStep", told))
            for told in (X, step(3, "-1/2")):
                self.assertEqual(refused(call, told, None), ("BadParameter", told))

    def test_degrees_ahead_of_what_is_too_great(self):
        for call in self.calls():
            for degree in BAD_DEGREES:
                found = refused(call, power(64), degree)
                self.assertEqual(found[0], "BadParameter")
                self.assertIs(found[1], degree)

    def test_too_great(self):
        for call in (commuting_heads, commuting_with, commuting_degrees):
            self.assertEqual(refused(call, power(64), 5), ("TooGreat", 256))
            self.assertEqual(refused(call, power(5), 52), ("TooGreat", 256))
            self.assertIsNone(refused(call, power(64), 4))
            self.assertIsNone(refused(call, power(5), 51))
        self.assertEqual(refused(commuting_heads, step(0, 0, 0, 0, 0, 0, 2), 43), ("TooGreat", 256))

    def test_heads(self):
        for call in (commuting_try, commuting_break, lambda *parts: is_commuting_break(*parts, 2)):
            for head in BAD_NUMBERS:
                self.assertEqual(refused(call, power(64), 64, head), ("BadNumber", head))
            for head in ((2, 1), (0, 1), (-1, 1), (1, 2)):
                self.assertEqual(refused(call, H, 3, head), ("BadParameter", head))
                self.assertEqual(refused(call, power(64), 64, head), ("BadParameter", head))
            self.assertEqual(refused(call, power(64), 64, ONE), ("TooGreat", 256))
            self.assertEqual(refused(call, step(0, 0, 0, 2), 2, ONE), ("BadParameter", ONE))
            self.assertEqual(refused(call, step(0, 0, GREAT), 3, (GREAT ** 2, 1)), ("BadNumber", (GREAT ** 2, 1)))


class Facts(unittest.TestCase):
    def test_what_commutes_with_two_steps_commutes_with_their_whole(self):
        rng = new_random(219)
        for _ in range(20):
            straight = step(some_number(rng), rng.choice((1, -1, 2)))
            one, other, third = [composed(back(straight), dickson(k, ONE), straight) for k in rng.sample(range(1, 6), 3)]
            self.assertIs(commutes(composed(one, other), third), True)

    def test_no_number_is_led_to_unlike_ends(self):
        for told in (H, power(3), dickson(4, ONE), step(0, 1, 0, 1)):
            for degree in range(1, 5):
                for found in commuting_with(told, degree):
                    for number in (Fraction(0), Fraction(-3, 2), Fraction(5)):
                        left = sum(part * sum(c * number ** k for k, c in enumerate(fractions_of(told))) ** k
                                   for k, part in enumerate(fractions_of(found)))
                        right = sum(part * sum(c * number ** k for k, c in enumerate(fractions_of(found))) ** k
                                    for k, part in enumerate(fractions_of(told)))
                        self.assertEqual(left, right)


if __name__ == "__main__":
    unittest.main()
