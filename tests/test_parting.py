"""Points [5], [9] and [10]: first parts of a told degree."""

import unittest
from fractions import Fraction

import oracle
from oracle import (
    BAD_STEPS, GREAT, X, composed, fractions_of, new_random, pair, power, refused, same, some_plain, some_step, step,
    times,
)
from stepswithin.modulo import PRIME, surely_none
from stepswithin.parting import (
    candidate, first_break, first_part, in_powers, is_break, is_first_part, last_part,
)
from stepswithin.steps import is_plain, plained

H = step(0, 1, 1)
TWICE = step(0, 1, 2, 2, 1)
LONE = step(0, 0, 0, 1, 1)
NO_DEGREES = [None, True, False, 0, -1, -2, 3, 5, 8, 64, "2", 2.0, (2,), [2], Fraction(2), 10 ** 60]


def divisors(told):
    """Return the divisors of the degree of a step."""
    return [degree for degree in range(1, len(told)) if (len(told) - 1) % degree == 0]


def some_steps(seed, count):
    """Return random steps, half of them with parts."""
    rng = new_random(seed)
    found = []
    for _ in range(count):
        found.append(some_step(rng, rng.randint(1, 12)))
        found.append(composed(some_step(rng, rng.randint(1, 4)), some_step(rng, rng.randint(1, 4))))
    return found


class Candidate(unittest.TestCase):
    def test_examples(self):
        self.assertTrue(same(candidate(LONE, 2), step(0, "1/2", 1)))
        self.assertTrue(same(candidate(TWICE, 2), H))

    def test_degree_one_and_own_degree(self):
        for told in (X, step(3, -5), H, TWICE, step(7, 0, "1/3", 5), power(64)):
            self.assertTrue(same(candidate(told, 1), X))
            self.assertTrue(same(candidate(told, len(told) - 1), plained(told)[0]))

    def test_alike_at_the_highest_powers(self):
        for told in some_steps(21, 40):
            for degree in divisors(told):
                found = candidate(told, degree)
                self.assertTrue(is_plain(found))
                self.assertEqual(len(found) - 1, degree)
                whole = fractions_of(told[-1:])
                for _ in range((len(told) - 1) // degree):
                    whole = times(whole, fractions_of(found))
                self.assertEqual(whole[-degree:], fractions_of(told)[-degree:])

    def test_against_one_number_after_the_other(self):
        for told in some_steps(22, 20):
            for degree in divisors(told):
                self.assertTrue(same(candidate(told, degree), oracle.candidate(told, degree)))

    def test_greatest_degrees(self):
        told = ((GREAT, 1), (1, GREAT), (-1, GREAT - 1), (3, 1)) * 16 + ((1, 1),)
        for degree in (1, 2, 4, 8, 16, 32, 64):
            self.assertEqual(candidate(told, degree), oracle.candidate(told, degree))

    def test_wrong_parameters_in_their_order(self):
        for told in BAD_STEPS:
            self.assertEqual(refused(candidate, told, None), ("BadStep", told))
        for degree in NO_DEGREES:
            self.assertEqual(refused(candidate, TWICE, degree), ("BadParameter", degree))
        self.assertEqual(refused(candidate, X, 2), ("BadParameter", 2))
        self.assertEqual(refused(candidate, power(7), 6), ("BadParameter", 6))


class InPowers(unittest.TestCase):
    def test_examples(self):
        self.assertTrue(same(in_powers(LONE, step(0, "1/2", 1)), (((0, 1), (1, 8)), ((-1, 4),), ((1, 1),))))
        self.assertTrue(same(in_powers(TWICE, H), ((), ((1, 1),), ((1, 1),))))

    def test_bases_of_other_degrees(self):
        self.assertEqual(in_powers(H, power(3)), (H,))
        self.assertEqual(in_powers(H, step(1, 2, 3)), (((-1, 3), (1, 3)), ((1, 3),)))
        self.assertEqual(in_powers(step(5, 0, 2), X), (((5, 1),), (), ((2, 1),)))
        self.assertEqual(in_powers(step(5, 0, 2), step(1, 1)), (((7, 1),), ((-4, 1),), ((2, 1),)))
        self.assertEqual(in_powers(step(0, 4), step(3, 2)), (((-6, 1),), ((2, 1),)))

    def test_remainders_make_the_step(self):
        rng = new_random(23)
        for _ in range(150):
            told = some_step(rng, rng.randint(1, 10))
            base = some_step(rng, rng.randint(1, 5))
            found = in_powers(told, base)
            self.assertEqual([fractions_of(rest) for rest in found], oracle.remainders(told, base))
            self.assertTrue(all(len(rest) < len(base) and (rest == () or rest[-1] != (0, 1)) for rest in found))
            self.assertNotEqual(found[-1], ())
            total, factor = [Fraction(0)] * 20, [Fraction(1)]
            for rest in found:
                for k, number in enumerate(times(fractions_of(rest), factor) if rest else []):
                    total[k] += number
                factor = times(factor, fractions_of(base))
            self.assertEqual(step(*total[:len(told)]), told)
            self.assertFalse(any(total[len(told):]))

    def test_constants_are_the_last_part(self):
        rng = new_random(24)
        for _ in range(40):
            first, last = some_step(rng, rng.randint(1, 4)), some_step(rng, rng.randint(1, 4))
            found = in_powers(composed(first, last), first)
            self.assertEqual(found, tuple((number,) if number != (0, 1) else () for number in last))

    def test_wrong_parameters_in_their_order(self):
        for told in BAD_STEPS:
            self.assertEqual(refused(in_powers, told, None), ("BadStep", told))
            self.assertEqual(refused(in_powers, H, told), ("BadStep", told))


class Parts(unittest.TestCase):
    def test_examples(self):
        self.assertEqual(first_part(TWICE, 2), H)
        self.assertEqual(last_part(TWICE, H), H)
        self.assertEqual(refused(first_part, LONE, 2), ("NoRow",))

    def test_first_parts_of_wholes(self):
        rng = new_random(25)
        for _ in range(60):
            first, last = some_plain(rng, rng.randint(1, 4)), some_step(rng, rng.randint(1, 4))
            told = composed(first, last)
            self.assertTrue(same(first_part(told, len(first) - 1), first))
            self.assertTrue(same(last_part(told, first), last))

    def test_first_parts_that_are_not_plain(self):
        rng = new_random(26)
        for _ in range(40):
            first, last = some_step(rng, rng.randint(1, 4)), some_step(rng, rng.randint(1, 4))
            told = composed(first, last)
            self.assertEqual(first_part(told, len(first) - 1), plained(first)[0])
            self.assertTrue(same(last_part(told, first), last))
            self.assertIs(is_first_part(told, first), True)

    def test_steps_with_and_without_parts(self):
        for told in some_steps(27, 30):
            for degree in divisors(told):
                first = oracle.candidate(told, degree)
                last = oracle.last_behind(told, first)
                self.assertIs(is_first_part(told, first), last is not None)
                if last is None:
                    self.assertEqual(refused(first_part, told, degree), ("NoRow",))
                    self.assertEqual(refused(last_part, told, first), ("NoRow",))
                else:
                    self.assertEqual(first_part(told, degree), first)
                    self.assertEqual(last_part(told, first), last)
                    self.assertEqual(composed(first, last), told)

    def test_straight_steps_and_the_step_itself(self):
        for told in (X, step(2, 3), H, LONE, TWICE, power(64)):
            self.assertEqual(last_part(told, X), told)
            self.assertEqual(last_part(told, told), X)
            self.assertEqual(composed(step(1, 2), last_part(told, step(1, 2))), told)
            self.assertEqual(first_part(told, 1), X)
            self.assertEqual(first_part(told, len(told) - 1), plained(told)[0])

    def test_what_is_no_first_part(self):
        for first in (step(0, 0, 1), step(0, 2, 1), power(3), power(5), TWICE[:-1] + ((2, 1),), LONE):
            self.assertIs(is_first_part(TWICE, first), False)
            self.assertEqual(refused(last_part, TWICE, first), ("NoRow",))

    def test_straight_steps_around_keep_the_degrees(self):
        rng = new_random(28)
        for told in (TWICE, LONE, power(6), step(0, 0, 1, 0, 1, 0, 1)):
            around = composed(some_step(rng, 1), told, some_step(rng, 1))
            for degree in divisors(told):
                self.assertEqual(refused(first_part, told, degree), refused(first_part, around, degree))

    def test_whole_numbers_with_a_candidate_of_fractions(self):
        self.assertEqual(candidate(LONE, 2)[1], (1, 2))
        self.assertIs(is_first_part(LONE, candidate(LONE, 2)), False)

    def test_powers(self):
        for degree in divisors(power(64)):
            self.assertEqual(first_part(power(64), degree), power(degree))
            self.assertEqual(last_part(power(64), power(degree)), power(64 // degree))

    def test_what_is_the_same_modulo_a_prime(self):
        self.assertIs(surely_none(LONE, 2), True)
        for told in (step(0, PRIME, 0, 0, 1), step(0, 1, 0, 0, PRIME), step(0, Fraction(1, PRIME), 0, 0, 1),
                     step(0, 1, 0, 0, Fraction(1, PRIME))):
            self.assertEqual(refused(first_part, told, 2), ("NoRow",))
        for told in (step(0, 0, PRIME, 0, 1), step(0, 0, 1, 0, PRIME), composed(step(0, Fraction(1, PRIME), 1), H)):
            self.assertIs(surely_none(told, 2), False)
            self.assertEqual(first_part(told, 2), oracle.candidate(told, 2))

    def test_wrong_parameters_in_their_order(self):
        for told in BAD_STEPS:
            for call in (first_part, last_part, is_first_part):
                self.assertEqual(refused(call, told, None), ("BadStep", told))
            for call in (last_part, is_first_part):
                self.assertEqual(refused(call, TWICE, told), ("BadStep", told))
        for degree in NO_DEGREES:
            self.assertEqual(refused(first_part, TWICE, degree), ("BadParameter", degree))


class Breaks(unittest.TestCase):
    def test_examples(self):
        self.assertTrue(same(first_break(LONE, 2), (0, 1)))
        self.assertEqual(refused(first_break, TWICE, 2), ("NoRow",))

    def test_least_power_then_greatest_place(self):
        for told in some_steps(29, 40):
            for degree in divisors(told):
                rests = oracle.remainders(told, oracle.candidate(told, degree))
                uneven = [(power_at, len(rest) - 1) for power_at, rest in enumerate(rests) if len(rest) > 1]
                if uneven:
                    self.assertTrue(same(first_break(told, degree), uneven[0]))
                else:
                    self.assertEqual(refused(first_break, told, degree), ("NoRow",))

    def test_breaks_behind_the_power_nought(self):
        told = step(0, 0, 0, 0, 1, 0, 0, 0, 0, 1)
        self.assertEqual(in_powers(told, power(3)), ((), ((0, 1), (1, 1)), (), ((1, 1),)))
        self.assertEqual(first_break(told, 3), (1, 1))

    def test_all_breaks(self):
        for told in some_steps(30, 20):
            for degree in divisors(told):
                rests = oracle.remainders(told, oracle.candidate(told, degree))
                for power_at in range(-2, len(rests) + 2):
                    for place in range(-2, degree + 2):
                        inside = 0 <= power_at < len(rests) and 1 <= place < len(rests[power_at])
                        told_so = inside and rests[power_at][place] != 0
                        self.assertIs(is_break(told, degree, (power_at, place)), told_so)

    def test_noughts_within_a_remainder(self):
        told = step(0, 0, 1, 0, 0, 0, 1)
        self.assertEqual(in_powers(told, candidate(told, 3)), (power(2), (), ((1, 1),)))
        self.assertIs(is_break(told, 3, (0, 2)), True)
        self.assertIs(is_break(told, 3, (0, 1)), False)

    def test_values_of_any_kind(self):
        self.assertIs(is_break(LONE, 2, (0, 1)), True)
        for value in (None, 0, 1, True, "01", (), (0,), (0, 1, 0), [0, 1], (0, True), (False, 1), (0.0, 1), (0, 1.0),
                      (0, 0), (1, 0), (2, 0), (0, 2), (-1, 1), (-3, 1), (0, -1), (10 ** 70, 1), (0, 10 ** 70), ("0", 1),
                      ((0, 1), (1, 8)), {0, 1}, {0: 1}, object(), (None, None), b"01"):
            self.assertIs(is_break(LONE, 2, value), False)

    def test_a_part_has_no_break(self):
        for value in ((0, 1), (1, 1), (2, 1), (0, 2), None):
            self.assertIs(is_break(TWICE, 2, value), False)
            self.assertIs(is_break(TWICE, 1, value), False)
            self.assertIs(is_break(TWICE, 4, value), False)

    def test_candidates_with_numbers_greater_than_parameters_may_have(self):
        told = tuple((GREAT - k, 1) for k in range(8)) + ((GREAT - 9, 1),)
        place = first_break(told, 4)
        self.assertIs(is_break(told, 4, place), True)
        self.assertIs(is_break(told, 4, (place[0], place[1] + 1)), False)

    def test_wrong_parameters_in_their_order(self):
        for told in BAD_STEPS:
            self.assertEqual(refused(first_break, told, None), ("BadStep", told))
            self.assertEqual(refused(is_break, told, None, None), ("BadStep", told))
        for degree in NO_DEGREES:
            self.assertEqual(refused(first_break, TWICE, degree), ("BadParameter", degree))
            self.assertEqual(refused(is_break, TWICE, degree, (0, 1)), ("BadParameter", degree))


class Greatest(unittest.TestCase):
    def test_all_degrees_of_random_steps_of_degree_64(self):
        rng = new_random(31)
        for most in (9, GREAT):
            told = step(*[rng.randint(-most, most) for _ in range(64)], 3)
            for degree in (2, 4, 8, 16, 32):
                self.assertEqual(refused(first_part, told, degree), ("NoRow",))
                self.assertEqual(first_break(told, degree), (0, degree - 1))

    def test_wholes_of_degree_64(self):
        rng = new_random(32)
        for degree in (2, 4, 8, 16, 32):
            first, last = some_plain(rng, degree, 3, 1), some_step(rng, 64 // degree, 3, 1)
            told = composed(first, last)
            self.assertEqual(first_part(told, degree), first)
            self.assertEqual(last_part(told, first), last)
            self.assertEqual(pair(fractions_of(told)[-1]), last[-1])


if __name__ == "__main__":
    unittest.main()
