"""Points [39] and [40]: rests of steps, and the rings in which they come again."""

import unittest
from fractions import Fraction
from math import gcd

from oracle import BAD_STEPS, GREAT, X, composed, new_random, power, refused, same, some_step, step
from stepswithin.doing import again, whole
from stepswithin.rests import (
    is_onto, parting_rest, rest_after, rest_at, rest_ring, rest_rings, ring_rests, same_rests, step_rests,
)

H = step(1, 0, 1)
BAD_MODULOS = [None, True, False, 0, 1, -7, 2001, GREAT, -GREAT, "7", 7.0, (7,), [7], Fraction(7), b"7", {7}]
BAD_RESTS = [None, True, False, -1, 7, 8, GREAT, "1", 1.0, (1,), [1], Fraction(1)]
BAD_TIMES = [None, True, False, -1, GREAT + 1, -GREAT, "1", 1.0, (1,), [1], Fraction(1)]
# those of a step and a modulo alone, and those of two steps
ONE = (step_rests, is_onto, ring_rests, rest_rings)
TWO = (same_rests, parting_rest)


def rest_of(top, bottom, modulo):
    """Return the rest of a fraction, found by trying."""
    return next(rest for rest in range(modulo) if (rest * bottom - top) % modulo == 0)


def led(told, modulo, rest):
    """Return the rest to which a step leads a rest."""
    return sum(rest_of(top, bottom, modulo) * rest ** k for k, (top, bottom) in enumerate(told)) % modulo


def table(told, modulo):
    """Return the list of what all rests are led to."""
    numbers = [rest_of(top, bottom, modulo) for top, bottom in told]
    return [sum(number * rest ** k for k, number in enumerate(numbers)) % modulo for rest in range(modulo)]


def some_let(rng, modulo, degree):
    """Return a random step whose numbers all have rests."""
    told = some_step(rng, degree, 30, 9)
    while any(gcd(bottom, modulo) != 1 for _, bottom in told):
        told = some_step(rng, degree, 30, 9)
    return told


def cases(seed, many, most=40):
    """Return random pairs of a step and a modulo."""
    rng = new_random(seed)
    found = []
    for _ in range(many):
        modulo = rng.randint(2, most)
        found.append((some_let(rng, modulo, rng.randint(1, 5)), modulo))
    return found


class Rests(unittest.TestCase):
    def test_examples(self):
        self.assertTrue(same(step_rests(step(1, "1/2"), 9), (1, 5)))
        self.assertIs(same_rests(power(3), X, 6), True)
        self.assertNotEqual(step_rests(power(3), 6), step_rests(X, 6))

    def test_rests_of_numbers(self):
        for told, modulo in cases(421, 150):
            self.assertTrue(same(step_rests(told, modulo), tuple(rest_of(*number, modulo) for number in told)))
        for modulo in (2, 3, 9, 64, 1999, 2000):
            for bottom in range(1, 60):
                if gcd(bottom, modulo) == 1:
                    for top in (1, -1, -7, 5 * bottom + 1, GREAT):
                        if gcd(top, bottom) == 1:
                            rest = step_rests(((top, bottom), (1, 1)), modulo)[0]
                            self.assertTrue(0 <= rest < modulo and (rest * bottom - top) % modulo == 0)

    def test_great_numbers(self):
        told = ((GREAT, GREAT - 1), (-GREAT, GREAT - 1), (1, GREAT - 1))
        found = step_rests(told, 2000)
        for rest, (top, bottom) in zip(found, told):
            self.assertEqual((rest * bottom - top) % 2000, 0)

    def test_where_rests_are_led(self):
        for told, modulo in cases(422, 60):
            for rest in range(modulo):
                self.assertTrue(same(rest_at(told, modulo, rest), led(told, modulo, rest)))
        self.assertEqual(rest_at(power(64), 2000, 1999), 1)
        self.assertEqual(rest_at(step(0, 0, 7), 2, 1), 1)

    def test_what_whole_numbers_do(self):
        rng = new_random(423)
        for _ in range(60):
            modulo = rng.randint(2, 60)
            told = step(*[rng.randint(-9, 9) for _ in range(4)], rng.choice((-2, 1, 5)))
            number = rng.randint(-200, 200)
            value = sum(top * number ** k for k, (top, _) in enumerate(told))
            self.assertEqual(rest_at(told, modulo, number % modulo), value % modulo)

    def test_rows_lead_rests_in_turn(self):
        rng = new_random(424)
        for _ in range(40):
            modulo = rng.randint(2, 40)
            row = tuple(some_let(rng, modulo, rng.randint(1, 3)) for _ in range(3))
            for rest in range(modulo):
                at = rest
                for told in row:
                    at = rest_at(told, modulo, at)
                self.assertEqual(rest_at(composed(*row), modulo, rest), at)


class Alike(unittest.TestCase):
    def test_against_all_rests(self):
        rng = new_random(425)
        for _ in range(300):
            modulo = rng.choice((2, 3, 4, 5, 6, 8, 12))
            one, other = some_let(rng, modulo, rng.randint(1, 4)), some_let(rng, modulo, rng.randint(1, 4))
            apart = [rest for rest in range(modulo) if led(one, modulo, rest) != led(other, modulo, rest)]
            self.assertIs(same_rests(one, other, modulo), apart == [])
            if apart:
                self.assertTrue(same(parting_rest(one, other, modulo), apart[0]))
            else:
                self.assertEqual(refused(parting_rest, one, other, modulo), ("NoRow",))

    def test_alike_with_unlike_rests(self):
        for one, other, modulo in ((power(3), X, 6), (power(2), X, 2), (power(7), X, 7), (power(4), power(2), 12)):
            self.assertIs(same_rests(one, other, modulo), True)
            self.assertEqual(refused(parting_rest, one, other, modulo), ("NoRow",))
        self.assertEqual(parting_rest(power(3), X, 7), 2)
        self.assertEqual(parting_rest(power(2), X, 2000), 2)
        self.assertEqual(parting_rest(step(1, 1), X, 2000), 0)

    def test_products_of_coprime_modulos(self):
        for one, other in ((power(3), X), (power(5), X), (power(4), power(2)), (power(7), power(1)), (H, step(1, 1))):
            for low, high in ((2, 3), (3, 4), (4, 5), (5, 6), (7, 8), (9, 10)):
                both = same_rests(one, other, low) and same_rests(one, other, high)
                self.assertIs(same_rests(one, other, low * high), both)

    def test_onto(self):
        for told, modulo in cases(426, 150, 20):
            self.assertIs(is_onto(told, modulo), sorted(table(told, modulo)) == list(range(modulo)))
        self.assertIs(is_onto(power(3), 11), True)
        self.assertIs(is_onto(power(3), 7), False)
        self.assertIs(is_onto(step(5, 1), 2000), True)
        self.assertIs(is_onto(power(2), 2), True)
        self.assertIs(is_onto(power(2), 4), False)


class Rings(unittest.TestCase):
    def test_examples(self):
        self.assertTrue(same(rest_ring(H, 7, 0), (3, 1)))
        self.assertTrue(same(rest_rings(H, 7), ((3,), (5,))))
        self.assertTrue(same(ring_rests(H, 7), (3, 5)))
        self.assertEqual([rest_after(H, 7, 0, times) for times in range(6)], [0, 1, 2, 5, 5, 5])

    def test_tails_and_rings(self):
        for told, modulo in cases(427, 50):
            leads = table(told, modulo)
            for rest in range(modulo):
                path = [rest]
                while leads[path[-1]] not in path:
                    path.append(leads[path[-1]])
                tail = path.index(leads[path[-1]])
                self.assertTrue(same(rest_ring(told, modulo, rest), (tail, len(path) - tail)))
                self.assertEqual(rest in ring_rests(told, modulo), tail == 0)

    def test_all_rings(self):
        for told, modulo in cases(428, 60):
            leads = table(told, modulo)
            rings = set()
            for rest in range(modulo):
                at = rest
                for _ in range(modulo):
                    at = leads[at]
                ring = [at]
                while leads[ring[-1]] != at:
                    ring.append(leads[ring[-1]])
                place = ring.index(min(ring))
                rings.add(tuple(ring[place:] + ring[:place]))
            self.assertTrue(same(rest_rings(told, modulo), tuple(sorted(rings))))
            self.assertTrue(same(ring_rests(told, modulo), tuple(sorted(sum(rings, ())))))
            self.assertIs(is_onto(told, modulo), len(ring_rests(told, modulo)) == modulo)

    def test_behind_many_times(self):
        for told, modulo in cases(429, 30):
            leads = table(told, modulo)
            for rest in (0, modulo - 1):
                at = rest
                for times in range(2 * modulo):
                    self.assertTrue(same(rest_after(told, modulo, rest, times), at))
                    at = leads[at]

    def test_times_to_10_to_60(self):
        self.assertEqual(rest_after(H, 7, 0, GREAT), 5)
        self.assertEqual(rest_after(step(1, 1), 2000, 3, GREAT), (3 + GREAT) % 2000)
        self.assertEqual(rest_after(step(1, 1), 1999, 3, GREAT - 7), (3 + GREAT - 7) % 1999)
        self.assertEqual(rest_after(step(0, 3), 1999, 1, GREAT), pow(3, GREAT, 1999))
        self.assertEqual(rest_after(power(2), 1999, 5, GREAT), pow(5, pow(2, GREAT, 1998), 1999))
        self.assertEqual(rest_after(step(0, 2), 2000, 1, GREAT), pow(2, GREAT, 2000))

    def test_greatest_and_least_modulo(self):
        self.assertEqual(rest_rings(step(1, 1), 2000), (tuple(range(2000)),))
        self.assertEqual(rest_ring(step(1, 1), 2000, 1999), (0, 2000))
        self.assertEqual(rest_rings(X, 2000), tuple((rest,) for rest in range(2000)))
        self.assertEqual(rest_rings(step(1, 1), 2), ((0, 1),))
        self.assertEqual(rest_rings(step(0, 2), 2), ((0,),))
        self.assertEqual(rest_ring(step(0, 2), 1024, 1), (10, 1))

    def test_done_again(self):
        for told, modulo in cases(430, 30, 20):
            if len(told) <= 4:
                thrice = again(told, 3)
                self.assertEqual(step_rests(whole((told,)), modulo), step_rests(told, modulo))
                for rest in range(modulo):
                    self.assertEqual(rest_after(told, modulo, rest, 3), led(thrice, modulo, rest))
                self.assertEqual(ring_rests(thrice, modulo), ring_rests(told, modulo))


class Wrong(unittest.TestCase):
    def test_one_step(self):
        for call, more in [(call, 0) for call in ONE] + [(rest_at, 1), (rest_ring, 1), (rest_after, 2)]:
            for told in BAD_STEPS:
                self.assertEqual(refused(call, told, None, *[None] * more), ("BadStep", told))
            for modulo in BAD_MODULOS:
                found = refused(call, step(0, "1/2"), modulo, *[None] * more)
                self.assertEqual(found[0], "BadParameter")
                self.assertIs(found[1], modulo)

    def test_rests_and_times(self):
        for rest in BAD_RESTS:
            for call, more in ((rest_at, ()), (rest_ring, ()), (rest_after, (None,))):
                found = refused(call, step("1/7", 1), 7, rest, *more)
                self.assertEqual(found[0], "BadParameter")
                self.assertIs(found[1], rest)
        for times in BAD_TIMES:
            found = refused(rest_after, step("1/7", 1), 7, 6, times)
            self.assertEqual(found[0], "BadParameter")
            self.assertIs(found[1], times)

    def test_two_steps(self):
        for call in TWO:
            for told in BAD_STEPS:
                self.assertEqual(refused(call, told, None, None), ("BadStep", told))
                self.assertEqual(refused(call, step("1/7", 1), told, None), ("BadStep", told))
            for modulo in BAD_MODULOS:
                found = refused(call, step("1/7", 1), X, modulo)
                self.assertEqual(found[0], "BadParameter")
                self.assertIs(found[1], modulo)

    def test_no_rests(self):
        told = step("1/5", "1/4", "1/6", 1)
        for call, more in [(call, ()) for call in ONE] + [(rest_at, (0,)), (rest_ring, (1,)), (rest_after, (1, GREAT))]:
            for modulo, bottom in ((2, 4), (3, 6), (10, 5), (12, 4), (15, 5), (9, 6), (2000, 5)):
                self.assertTrue(same(refused(call, told, modulo, *more), ("Unlike", bottom)))
            self.assertIsNone(refused(call, told, 7, *more))
            self.assertEqual(refused(call, ((1, GREAT), (1, 1)), 2, *more), ("Unlike", GREAT))
        for call in TWO:
            for one, other, bottom in ((step("1/2", 1), step("1/4", 1), 2), (X, step(0, "1/4", "1/2"), 4),
                                       (step(0, 0, "1/6"), X, 6), (step("1/3", 1), step("1/2", 1), 2)):
                self.assertEqual(refused(call, one, other, 8), ("Unlike", bottom))


if __name__ == "__main__":
    unittest.main()
