"""Points [17] to [20]: turns, steps that are one but for straight ones, partners."""

import unittest
from fractions import Fraction

import oracle
from oracle import (
    BAD_STEPS, GREAT, X, back, composed, fractions_of, middle, new_random, pair, power, refused, same, some_number,
    some_step, step,
)
from stepswithin.kinds import dickson, is_power, middle_of
from stepswithin.steps import in_order
from stepswithin.straight import are_straight, own, partners, straight_pairs, turns

H = step(0, 1, 1)
TWICE = step(0, 1, 2, 2, 1)
GRID = sorted({Fraction(sign * top, bottom) for sign in (1, -1) for top in range(1, 7) for bottom in range(1, 7)})
# their noughts, roots and signs are of many kinds
SOME = [H, TWICE, step(0, 0, 1, 0, 1), step(0, 1, 0, 1), step(0, -3, 0, 1), step(5, 0, 0, 2), step(1, 2, 3, 4),
        step(0, 0, 0, 1, 1), step(0, 1, 0, 0, 1), step(0, 0, 1, 0, 0, 0, "-2/3"), step(1, 0, 2, 0, 0, 1), power(5)]


def pairs_in_grid(one, other):
    """Return all pairs (V, U) with a head of V in the grid, by trying each of them."""
    found = []
    for head in GRID:
        ahead = step(head * middle(other) - middle(one), head)
        told, goal = fractions_of(composed(ahead, one)), fractions_of(other)
        share = goal[-1] / told[-1]
        behind = step(goal[0] - share * told[0], share)
        if composed(ahead, one, behind) == other:
            found.append((ahead, behind))
    return tuple(found)


def partners_in_grid(one, other):
    """Return all straight steps with a head in the grid that tell one step as the other one."""
    found = [step(head * middle(one) - middle(other), head) for head in GRID]
    return tuple(told for told in found if composed(told, other) == composed(one, told))


class Turns(unittest.TestCase):
    def test_examples(self):
        self.assertTrue(same(turns(TWICE), (step(-1, -1), X)))
        self.assertTrue(same(turns(step(0, 1, 0, 1)), (X,)))
        self.assertEqual(turns(H), (step(-1, -1), X))
        self.assertEqual(turns(step(0, 0, 1, 1)), (X,))

    def test_even_ones_told_by_any_letter(self):
        rng = new_random(171)
        for _ in range(40):
            shift = some_number(rng)
            told = composed(step(shift, 1), power(2), some_step(rng, rng.randint(1, 5)))
            self.assertTrue(same(turns(told), (step(-2 * shift, -1), X)))
            self.assertEqual(composed(turns(told)[0], told), told)

    def test_one_odd_number_is_enough(self):
        rng = new_random(172)
        for degree in range(3, 12):
            told = list(composed(power(2), some_step(rng, 6)))
            told[degree] = pair(Fraction(*told[degree]) + 1)
            both = (step(-2 * middle(told), -1), X)
            self.assertEqual(turns(tuple(told)), tuple(one for one in both if composed(one, told) == tuple(told)))
            self.assertEqual(len(turns(tuple(told))), 1 if degree % 2 == 1 else 2)

    def test_all_of_some_steps(self):
        for told in SOME:
            found = [straight for straight in (step(-2 * middle(told), -1), X) if composed(straight, told) == told]
            self.assertTrue(same(turns(told), tuple(found)))

    def test_great_ones(self):
        self.assertEqual(turns(power(64)), (step(0, -1), X))
        self.assertEqual(turns(power(63)), (X,))
        self.assertEqual(turns((*power(64)[:63], (1, GREAT), (GREAT, 1))), (X,))

    def test_wrong_steps(self):
        for call in (turns, own):
            for told in BAD_STEPS:
                self.assertEqual(refused(call, told), ("BadStep", told))
            for told in (X, step("1/2", -3)):
                self.assertEqual(refused(call, told), ("BadParameter", told))


class StraightPairs(unittest.TestCase):
    def test_examples(self):
        one = step(0, 0, 1, 0, 1)
        found = straight_pairs(one, step(0, 0, 1, 0, 4))
        self.assertTrue(same(found, ((step(0, -2), step(0, "1/4")), (step(0, 2), step(0, "1/4")))))
        self.assertEqual(straight_pairs(one, step(0, 0, 2, 0, 4)), ())
        self.assertIs(are_straight(one, step(0, 0, 1, 0, 4)), True)
        self.assertIs(are_straight(one, step(0, 0, 2, 0, 4)), False)

    def test_planted_pairs_are_found_and_all_others_of_a_grid(self):
        rng = new_random(173)
        for told in SOME + [some_step(rng, rng.randint(3, 7), 3, 2) for _ in range(20)]:
            ahead, behind = step(some_number(rng), rng.choice(GRID)), some_step(rng, 1)
            other = composed(ahead, told, behind)
            found = straight_pairs(told, other)
            self.assertIs(are_straight(told, other), True)
            for straight, last in found:
                self.assertEqual(composed(straight, told, last), other)
            if is_power(told):
                self.assertEqual([straight[1] for straight, _ in found], [(1, 1)])
            else:
                self.assertIn((ahead, behind), found)
                self.assertLessEqual(len(found), 2)
                self.assertTrue(same(tuple(pairs for pairs in found if Fraction(*pairs[0][1]) in GRID),
                                     pairs_in_grid(told, other)))

    def test_each_two_of_some_steps(self):
        for one in SOME:
            for other in SOME:
                found = straight_pairs(one, other)
                self.assertIs(are_straight(one, other), found != ())
                if len(one) != len(other):
                    self.assertEqual(found, ())
                elif is_power(one):
                    self.assertEqual(len(found), int(is_power(other)))
                else:
                    self.assertEqual(found, pairs_in_grid(one, other))

    def test_steps_of_the_degree_two_have_one_told_pair(self):
        rng = new_random(174)
        for _ in range(20):
            one, other = some_step(rng, 2), some_step(rng, 2)
            ((ahead, behind),) = straight_pairs(one, other)
            self.assertEqual(ahead[1], (1, 1))
            self.assertEqual(composed(ahead, one, behind), other)

    def test_middles(self):
        one, other = step(1, 2, 3, 4), composed(step(7, 2), step(1, 2, 3, 4), step("1/3", -5))
        for ahead, _ in straight_pairs(one, other):
            self.assertEqual(oracle.value(ahead, -middle(other)), -middle(one))

    def test_no_root_among_the_fractions(self):
        one = step(0, 1, 0, 1)
        self.assertEqual(straight_pairs(one, step(0, 2, 0, 1)), ())
        self.assertEqual(len(straight_pairs(one, step(0, 1, 0, 4))), 2)
        self.assertEqual(straight_pairs(one, step(0, -1, 0, 1)), ())
        self.assertEqual(straight_pairs(step(0, 0, 1, 0, 0, 1), step(0, 0, 2, 0, 0, 1)), ())
        self.assertEqual(straight_pairs(step(0, 0, 1, 0, 0, 1), step(0, 0, 1, 0, 0, "-1/8")),
                         ((step(0, "-1/2"), step(0, 4)),))

    def test_unlike_noughts(self):
        self.assertEqual(straight_pairs(step(0, 1, 1, 0, 1), step(0, 1, 0, 0, 1)), ())
        self.assertEqual(straight_pairs(step(0, 1, 0, 0, 1), step(0, 1, 1, 0, 1)), ())
        self.assertEqual(straight_pairs(power(4), step(0, 1, 0, 0, 1)), ())

    def test_great_ones(self):
        one = tuple((k + 1, GREAT - k) if k % 7 else (1, 3) for k in range(64)) + ((1, 1),)
        self.assertEqual(straight_pairs(one, one), ((X, X),))
        self.assertEqual(straight_pairs(one, one[:-1] + ((2, 1),)), ())
        dickson_two = dickson(60, (4, 1))
        self.assertEqual([ahead for ahead, _ in straight_pairs(dickson(60, (1, 1)), dickson_two)],
                         [step(0, "-1/2"), step(0, "1/2")])


class Partners(unittest.TestCase):
    def test_examples(self):
        self.assertTrue(same(partners(step(-2, 0, 1), step(0, 4, 1)), (step(-2, 1),)))
        self.assertTrue(same(own(power(3)), (step(0, -1), X)))
        self.assertEqual(own(TWICE), (X,))
        self.assertEqual(own(power(2)), (X,))

    def test_planted_partners_are_found_and_all_others_of_a_grid(self):
        rng = new_random(175)
        for told in SOME + [some_step(rng, rng.randint(2, 6), 3, 2) for _ in range(25)]:
            straight = step(some_number(rng), rng.choice(GRID))
            other = composed(back(straight), told, straight)
            found = partners(told, other)
            self.assertIn(straight, found)
            self.assertLessEqual(len(found), 2)
            self.assertTrue(same(tuple(one for one in found if Fraction(*one[1]) in GRID),
                                 partners_in_grid(told, other)))
            self.assertEqual(tuple(sorted(map(back, found), key=lambda one: Fraction(*one[1]))), partners(other, told))

    def test_each_two_of_some_steps(self):
        for one in SOME:
            self.assertEqual(own(one), partners_in_grid(one, one))
            self.assertIn(X, own(one))
            for other in SOME:
                expected = partners_in_grid(one, other) if len(one) == len(other) else ()
                self.assertEqual(partners(one, other), expected)

    def test_numbers_are_led_alike(self):
        one = step(1, -2, 0, 3)
        straight = step("5/3", "-2/7")
        other = composed(back(straight), one, straight)
        for found in partners(one, other):
            number = Fraction(4, 9)
            for _ in range(3):
                self.assertEqual(oracle.value(other, oracle.value(found, number)),
                                 oracle.value(found, oracle.value(one, number)))
                number = oracle.value(one, number)

    def test_own_of_odd_ones(self):
        self.assertEqual(own(step(0, 1, 0, 1)), (step(0, -1), X))
        self.assertEqual(own(composed(step(-3, 1), step(0, 1, 0, 1), step(3, 1))), (step(6, -1), X))
        self.assertEqual(own(step(1, 1, 0, 1)), (X,))
        self.assertEqual(own(dickson(5, (2, 1))), (step(0, -1), X))
        self.assertEqual(own(dickson(6, (2, 1))), (X,))

    def test_heads_without_a_root(self):
        self.assertEqual(partners(power(3), step(0, 0, 0, 2)), ())
        self.assertEqual(partners(step(0, 0, 0, 4), power(3)), (step(0, -2), step(0, 2)))
        self.assertEqual(partners(power(4), step(0, 0, 0, 0, 2)), ())
        self.assertEqual(partners(step(0, 0, 0, 0, -8), power(4)), (step(0, -2),))
        self.assertEqual(partners(power(3), power(4)), ())

    def test_great_ones(self):
        one = tuple((k - 30, GREAT - k) if k % 7 else (1, 3) for k in range(64)) + ((-7, 1),)
        one = tuple(pair(Fraction(*number)) for number in one)
        self.assertEqual(own(one), (X,))
        self.assertEqual(own(power(63)), (step(0, -1), X))

    def test_ascending(self):
        for found in (turns(power(4)), own(power(3)), partners(step(0, 0, 0, 4), power(3))):
            self.assertEqual(found, in_order(found))

    def test_straight_and_wrong_steps_in_their_order(self):
        for call in (straight_pairs, are_straight, partners):
            for told in BAD_STEPS:
                self.assertEqual(refused(call, told, None), ("BadStep", told))
                self.assertEqual(refused(call, X, told), ("BadStep", told))
            self.assertEqual(refused(call, X, step(1, 2)), ("BadParameter", X))
            self.assertEqual(refused(call, H, step(1, 2)), ("BadParameter", step(1, 2)))
            self.assertEqual(refused(call, step(1, 2), H), ("BadParameter", step(1, 2)))

    def test_middles_of_the_package_are_those_here(self):
        for told in SOME:
            self.assertEqual(middle_of(told), pair(middle(told)))


if __name__ == "__main__":
    unittest.main()
