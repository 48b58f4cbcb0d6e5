"""Points [26] and [27]: what stands ahead of a told last part, and what shows that nothing does."""

import unittest
from fractions import Fraction

from oracle import (
    BAD_COUNTS, BAD_NUMBERS, BAD_STEPS, GREAT, X, candidate, composed, fractions_of, last_behind, new_random, pair,
    power, rational_roots, refused, same, some_number, some_step, step,
)
from stepswithin.kinds import dickson
from stepswithin.modulo import PRIME
from stepswithin.parting import first_break, is_break
from stepswithin.quotients import both_firsts, first_bar, firsts, is_first_bar, middles, number_roots
from stepswithin.steps import in_order

H = step(0, 1, 1)
P2, P3, P4 = power(2), power(3), power(4)


def all_firsts(told, last):
    """Return all steps ahead of a last part: each number below the head is told by the wholes with 0 and 1 for it."""
    size, count = len(told) - 1, len(last) - 1
    if size % count != 0:
        return ()
    degree = size // count
    found = []
    for head in rational_roots(Fraction(*told[-1]) / Fraction(*last[-1]), count):
        numbers = [Fraction(0)] * degree + [head]
        for place in range(1, degree + 1):
            ends = []
            for number in (0, 1):
                numbers[degree - place] = Fraction(number)
                ends.append(Fraction(*composed(step(*numbers), last)[size - place]))
            numbers[degree - place] = (Fraction(*told[size - place]) - ends[0]) / (ends[1] - ends[0])
        if composed(step(*numbers), last) == told:
            found.append(step(*numbers))
    return tuple(found)


def bar_of(told, last):
    """Return the first bar by its words, or None."""
    size, count = len(told) - 1, len(last) - 1
    if size % count != 0:
        return ("degree",)
    heads = rational_roots(Fraction(*told[-1]) / Fraction(*last[-1]), count)
    if not heads:
        return ("head",)
    behind = last_behind(told, candidate(told, size // count))
    if behind is None:
        return ("part", *first_break(told, size // count))
    places = [unlike(behind, last, head) for head in heads]
    return None if [] in places else ("last", tuple(powers[-1] for powers in places))


def unlike(behind, last, head):
    """Return the ascending list of the powers at which the whole of (V, last) and what is behind are unlike."""
    count = len(last) - 1
    ends = [Fraction(*composed(step(number, head), last)[count - 1]) for number in (0, 1)]
    straight = step((Fraction(*behind[count - 1]) - ends[0]) / (ends[1] - ends[0]), head)
    return [k for k in range(count + 1) if composed(straight, last)[k] != behind[k]]


def seen_bar(told, last):
    """Return what `first_bar` returns, or None for its NoRow."""
    found = refused(first_bar, told, last)
    return None if found == ("NoRow",) else first_bar(told, last)


class NumberRoots(unittest.TestCase):
    def test_some(self):
        for number, degree, found in (
                ("4", 2, ["-2", "2"]), ("-4", 2, []), ("2", 2, []), ("8/27", 3, ["2/3"]), ("-8/27", 3, ["-2/3"]),
                ("0", 1, ["0"]), ("0", 2, ["0"]), ("0", 64, ["0"]), ("1", 1, ["1"]), ("1", 64, ["-1", "1"]),
                ("1", 63, ["1"]), ("-1", 63, ["-1"]), ("-1", 64, []), ("-7/5", 1, ["-7/5"]), ("1/4", 2, ["-1/2", "1/2"]),
                ("1/2", 2, []), ("4/3", 2, []), ("3/4", 2, []), ("16/81", 4, ["-2/3", "2/3"]), ("9", 4, [])):
            self.assertTrue(same(number_roots(pair(number), degree), tuple(pair(one) for one in found)))

    def test_against_each_power(self):
        rng = new_random(261)
        for degree in range(1, 65):
            for _ in range(12):
                root = Fraction(rng.randint(-10 ** rng.randint(1, 30), 10 ** rng.randint(1, 30)), rng.randint(1, 10 ** 9))
                number = root ** degree
                if max(abs(number.numerator), number.denominator) <= GREAT:
                    expected = {root, -root} if degree % 2 == 0 else {root}
                    self.assertEqual(number_roots(pair(number), degree), tuple(pair(one) for one in sorted(expected)))
                    near = number + rng.choice((1, -1, Fraction(1, 7)))
                    if max(abs(near.numerator), near.denominator) <= GREAT:
                        self.assertEqual(number_roots(pair(near), degree),
                                         tuple(pair(one) for one in rational_roots(near, degree)))

    def test_each_small_number(self):
        for degree in (2, 3, 4, 6):
            for number in range(-300, 300):
                self.assertEqual(number_roots((number, 1), degree),
                                 tuple(pair(one) for one in rational_roots(Fraction(number), degree)))

    def test_great_ones(self):
        self.assertEqual(number_roots((GREAT, 1), 60), ((-10, 1), (10, 1)))
        self.assertEqual(number_roots((GREAT - 1, 1), 60), ())
        self.assertEqual(number_roots((-1, GREAT), 15), ((-1, 10 ** 4),))
        self.assertEqual(number_roots((GREAT, 1), 64), ())

    def test_wrong_parameters_in_their_order(self):
        for number in BAD_NUMBERS:
            self.assertEqual(refused(number_roots, number, None), ("BadNumber", number))
        for degree in BAD_COUNTS + [0, 65, GREAT]:
            found = refused(number_roots, (1, 1), degree)
            self.assertEqual(found[0], "BadParameter")
            self.assertIs(found[1], degree)


class Firsts(unittest.TestCase):
    def test_examples(self):
        self.assertTrue(same(firsts(step(1, 2, 1), P2), (step(-1, -1), step(1, 1))))
        self.assertEqual(firsts(H, P2), ())
        self.assertEqual(firsts(step(0, 0, 2), P2), ())
        self.assertEqual(firsts(P3, P2), ())
        self.assertEqual(firsts(step(0, 0, 0, 1, 1), P2), ())

    def test_planted_ones_and_no_others(self):
        rng = new_random(262)
        for _ in range(80):
            first, last = some_step(rng, rng.randint(1, 4), 3, 2), some_step(rng, rng.randint(1, 4), 3, 2)
            if rng.random() < 0.5:
                last = composed(some_step(rng, 1, 3, 2), rng.choice((P2, P4, P3, dickson(4, (1, 2)))), some_step(rng, 1, 3, 2))
            told = composed(first, last)
            found = firsts(told, last)
            self.assertIn(first, found)
            self.assertTrue(same(found, all_firsts(told, last)))
            self.assertEqual(found, in_order(found))
            self.assertEqual(refused(first_bar, told, last), ("NoRow",))

    def test_two_are_one_and_a_turn_behind_it(self):
        found = firsts(composed(H, P4), P4)
        self.assertEqual(found, (step(0, -1, -1), H))
        found = firsts(composed(H, step(1, 4, 2)), step(1, 4, 2))
        self.assertEqual(found, (step(-2, -1, -1), H))

    def test_of_one_degree_and_straight_ones(self):
        self.assertEqual(firsts(step(1, 2), step(3, 5)), (step("-2/5", "2/5"),))
        self.assertEqual(firsts(H, step(3, 5)), (step("-3/5", "1/5", "1/5"),))
        self.assertEqual(firsts(H, H), (step(-1, -1), X))
        self.assertEqual(firsts(P3, P3), (X,))
        self.assertEqual(firsts(X, H), ())

    def test_random_pairs_have_none_or_what_is_told(self):
        rng = new_random(263)
        for _ in range(150):
            told, last = some_step(rng, rng.choice((1, 2, 2, 4, 4, 6)), 1, 1), some_step(rng, rng.choice((1, 2, 2, 3)), 1, 1)
            self.assertEqual(firsts(told, last), all_firsts(told, last))

    def test_greatest(self):
        first = step(*range(1, 9))
        last = step(*[(-1) ** k * k for k in range(9)], 3)
        told = composed(first, last)
        self.assertEqual(len(told) - 1, 63)
        self.assertEqual(firsts(told, last), (first,))
        self.assertEqual(firsts(power(64), power(32)), (step(0, 0, -1), P2))
        self.assertEqual(firsts(power(64), power(64)), (step(0, -1), X))
        near = (pair(Fraction(*told[0]) + PRIME), *told[1:])
        self.assertEqual(firsts(near, last), ())
        near = (told[0], pair(Fraction(*told[1]) + PRIME), *told[2:])
        self.assertEqual(firsts(near, last), ())

    def test_wrong_steps_in_their_order(self):
        for call in (firsts, first_bar, lambda *parts: is_first_bar(*parts, None)):
            for told in BAD_STEPS:
                self.assertEqual(refused(call, told, None), ("BadStep", told))
                self.assertEqual(refused(call, X, told), ("BadStep", told))


class Middles(unittest.TestCase):
    def test_planted_ones(self):
        rng = new_random(264)
        for _ in range(40):
            first, middle, last = [some_step(rng, rng.randint(1, 3), 3, 2) for _ in range(3)]
            if rng.random() < 0.4:
                last = P2
            told = composed(first, middle, last)
            if max(abs(part) for number in told for part in number) <= GREAT:
                found = middles(told, first, last)
                self.assertIn(middle, found)
                self.assertTrue(same(found, all_firsts(last_behind(told, first), last)))

    def test_two_and_none(self):
        told = composed(H, step(1, 1, 1), P2)
        self.assertEqual(middles(told, H, P2), (step(-1, -1, -1), step(1, 1, 1)))
        self.assertEqual(middles(told, step(0, 2, 1), P2), ())
        self.assertEqual(middles(told, H, P3), ())
        self.assertEqual(middles(told, P3, P2), ())
        self.assertEqual(middles(told, power(16), P2), ())
        self.assertEqual(middles(X, X, X), (X,))
        self.assertEqual(middles(step(1, 2), step(0, 3), step(-1, 4)), (step("1/2", "1/6"),))

    def test_wrong_steps_in_their_order(self):
        for told in BAD_STEPS:
            self.assertEqual(refused(middles, told, None, None), ("BadStep", told))
            self.assertEqual(refused(middles, X, told, None), ("BadStep", told))
            self.assertEqual(refused(middles, X, H, told), ("BadStep", told))


class BothFirsts(unittest.TestCase):
    def test_planted_ones(self):
        rng = new_random(265)
        for _ in range(40):
            first = some_step(rng, rng.randint(1, 3), 3, 2)
            last, far = [rng.choice((P2, P3, P4, H, some_step(rng, 2, 3, 2), some_step(rng, 1))) for _ in range(2)]
            one, other = composed(first, last), composed(first, far)
            expected = tuple(told for told in all_firsts(one, last) if told in all_firsts(other, far))
            self.assertIn(first, expected)
            self.assertTrue(same(both_firsts(one, last, other, far), expected))

    def test_two_one_none(self):
        one, other = composed(H, P2), composed(H, P4)
        self.assertEqual(both_firsts(one, P2, other, P4), (step(0, -1, -1), H))
        self.assertEqual(both_firsts(one, P2, composed(H, P3), P3), (H,))
        self.assertEqual(both_firsts(one, P2, composed(step(0, -1, -1), P3), P3), (step(0, -1, -1),))
        self.assertEqual(both_firsts(one, P2, composed(step(1, 1, 1), P3), P3), ())
        self.assertEqual(both_firsts(one, P3, other, P4), ())
        self.assertEqual(both_firsts(one, P2, other, P3), ())

    def test_wrong_steps_in_their_order(self):
        for told in BAD_STEPS:
            self.assertEqual(refused(both_firsts, told, None, None, None), ("BadStep", told))
            self.assertEqual(refused(both_firsts, X, told, None, None), ("BadStep", told))
            self.assertEqual(refused(both_firsts, X, H, told, None), ("BadStep", told))
            self.assertEqual(refused(both_firsts, X, H, H, told), ("BadStep", told))


class Bars(unittest.TestCase):
    def test_examples(self):
        self.assertTrue(same(first_bar(H, P2), ("last", (0, 0))))
        self.assertTrue(same(first_bar(step(0, 0, 2), P2), ("head",)))
        self.assertTrue(same(first_bar(P3, P2), ("degree",)))
        self.assertTrue(same(first_bar(step(0, 0, 0, 1, 1), P2), ("part", 0, 1)))

    def test_by_the_words(self):
        rng = new_random(266)
        seen = set()
        for _ in range(250):
            size, count = rng.choice(((2, 2), (4, 2), (3, 2), (6, 3), (6, 2), (3, 3), (4, 4), (2, 1), (4, 4), (6, 6)))
            told, last = some_step(rng, size, 2, 1), some_step(rng, count, 2, 1)
            if rng.random() < 0.5:
                told, last = (*told[:-1], (1, 1)), (*last[:-1], (1, 1))
            if rng.random() < 0.6 and size % count == 0:
                told = composed(some_step(rng, size // count, 2, 1), (*some_step(rng, count, 2, 1)[:-1], (1, 1)))
            expected = bar_of(told, last)
            seen.add(expected[0] if expected else None)
            self.assertTrue(same(seen_bar(told, last), expected))
            self.assertEqual(firsts(told, last) == (), expected is not None)
            if expected is not None:
                self.assertIs(is_first_bar(told, last, expected), True)
        self.assertEqual(seen, {None, "degree", "head", "part", "last"})

    def test_all_values_of_the_four_forms(self):
        rng = new_random(267)
        for told, last in ((H, P2), (step(0, 0, 2), P2), (P3, P2), (step(0, 0, 0, 1, 1), P2), (step(1, 2, 1), P2),
                           (step(0, 0, 0, 0, 2), P2), (step(0, 0, 0, 1, 2), P2), (step(0, 1, 1, 1), P3),
                           (composed(H, step(0, 1, 1, 1)), P3), (step(3, 1, 0, 1, 1), step(1, 1, 0, 0, 1)),
                           (composed(H, H, H), P4), (composed(H, step(1, 1, 1, 1, 1)), P4), (X, X), (H, X),
                           (some_step(rng, 5), some_step(rng, 5))):
            size, count = len(told) - 1, len(last) - 1
            divides = size % count == 0
            heads = rational_roots(Fraction(*told[-1]) / Fraction(*last[-1]), count)
            self.assertIs(is_first_bar(told, last, ("degree",)), not divides)
            self.assertIs(is_first_bar(told, last, ("head",)), divides and not heads)
            for power_at in range(-1, count + 2):
                for place in range(-1, size + 1):
                    expected = divides and is_break(told, size // count, (power_at, place))
                    self.assertIs(is_first_bar(told, last, ("part", power_at, place)), expected)
            behind = last_behind(told, candidate(told, size // count)) if divides else None
            there = [unlike(behind, last, head) for head in heads] if behind and heads else []
            for low in range(-1, count + 2):
                self.assertIs(is_first_bar(told, last, ("last", (low,))), len(there) == 1 and low in there[0])
                for high in range(-1, count + 2):
                    expected = len(there) == 2 and low in there[0] and high in there[1]
                    self.assertIs(is_first_bar(told, last, ("last", (low, high))), expected)
            self.assertIs(is_first_bar(told, last, ("last", ())), False)

    def test_values_of_any_kind(self):
        for value in (None, 5, True, "degree", (), ("last",), ("last", 0), ("last", (0,)), ("last", [0, 0]),
                      ("last", (0, 0), 1), ["last", (0, 0)], ("last", (0, 0, 0)), ("last", (False, 0)),
                      ("last", (0, 0.0)), ("last", (0, "0")), ("last", 0, 0), ("last", (1, 0)), ("last", None),
                      ("part",), ("part", 0), ("part", (0, 1)), ("part", 0, 1, 1), ("part", 0, True), ("part", None, None),
                      (5,), ("head", 1), ("degree", 1), (None, 1), (("degree",),), ("",), ("bar",), {"degree"}):
            self.assertIs(is_first_bar(H, P2, value), False)
            self.assertIs(is_first_bar(step(1, 2, 1), P2, value), False)
        self.assertIs(is_first_bar(H, P2, ("last", (0, 0))), True)
        for value in (["degree"], ("degree", None), ("head",), ("part", 0, 1), ("last", (0,)), "degree"):
            self.assertIs(is_first_bar(P3, P2, value), False)
        for value in (("part", 0, True), ("part", False, 1), ("part", 0, 1.0), ("part", [0, 1]), ["part", 0, 1]):
            self.assertIs(is_first_bar(step(0, 0, 0, 1, 1), P2, value), False)

    def test_one_head_and_greater_powers(self):
        told = composed(H, step(5, 4, 3, 1))
        self.assertEqual(first_bar(told, P3), ("last", (1,)))
        self.assertIs(is_first_bar(told, P3, ("last", (1,))), True)
        self.assertIs(is_first_bar(told, P3, ("last", (0,))), True)
        self.assertIs(is_first_bar(told, P3, ("last", (2,))), False)

    def test_what_a_prime_cannot_see(self):
        told = composed(H, step(PRIME, 0, 1))
        self.assertEqual(first_bar(told, P2), ("last", (0, 0)))
        told = step(0, PRIME, 0, 0, 1)
        self.assertEqual(first_bar(told, P2), ("part", 0, 1))
        self.assertEqual(firsts(told, P2), ())
        self.assertEqual(firsts(composed(step(0, Fraction(1, PRIME), 1), P2), P2),
                         (step(0, Fraction(-1, PRIME), -1), step(0, Fraction(1, PRIME), 1)))


class Facts(unittest.TestCase):
    def test_at_most_two(self):
        rng = new_random(268)
        for _ in range(30):
            first, last = some_step(rng, 2, 3, 2), composed(step(some_number(rng), 1), P2, some_step(rng, 2, 3, 2))
            found = firsts(composed(first, last), last)
            self.assertEqual(len(found), 2)
            turned = [fractions_of(told) for told in found]
            self.assertEqual([-part for part in turned[0][1:]], turned[1][1:])


if __name__ == "__main__":
    unittest.main()
