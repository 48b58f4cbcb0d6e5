"""Points [36] to [38]: steps that are chosen, goals that are reached, and what can stay."""

import unittest
from fractions import Fraction
from itertools import product

from oracle import BAD_NUMBERS, GREAT, X, new_random, pair, power, refused, same, step
from stepswithin.choices import (
    choice_bound, closed_list, count_words, is_closed, is_staying, reach, stays,
)
from stepswithin.starts import bounds_of, comes_round

EXAMPLE = (step(-5, 0, 1), step(1, 2))
BAD_ROWS = [(None, ()), ((), ()), ([power(2)], ()), ((power(2),) * 9, ()), (5, ()), ((power(2), None), (1,)),
            ((None, X), (0,)), ((X, (1, 1)), (1,))]
# each with the place of the first step that is not let
NOT_LET = [
    ((X,), 0), ((power(2), step(5, -1)), 1), ((step(0, 2), power(2), step(1, 1)), 2), ((step("1/2", 2),), 0),
    ((power(2), step(0, "3/2")), 1), ((step(0, "1/2", 1),), 0), ((power(2), step(0, 0, "5/2"), X), 1),
    ((step(0, -1),), 0), ((step(0, 2), step(0, 0, 0, Fraction(1, GREAT))), 1),
]
BAD_INTEGERS = [(1, 2), (-3, 7), (GREAT, GREAT - 1), (1, GREAT)]
BAD_LENGTHS = [None, True, False, -1, "2", 2.0, (2,), [2], Fraction(2), 61, GREAT, -GREAT]
SETS = [
    EXAMPLE, (power(2),), (step(-1, 0, 1), step(0, -2)), (step(0, 2), step(1, -2)), (step(-3, 0, 1), step(2, 2)),
    (step(-1, -2), step(1, 2), step(0, 3)), (step(0, -3, 0, 1), step(-7, 2)), (step(-6, 0, 1), step(5, -3), power(2)),
    (step(1, 0, -1), step(-2, 0, 1)), (step(4, -2), step(0, 0, -1), step(-4, 3)), (step(0, 2), step(0, 2)),
    (step(1, 0, 1),), (step(9, -2), step(-9, -2)), (step(2, -1, -1), step(3, 4), step(0, 0, 1), step(-12, 5)),
]
STARTS = (-7, -3, -1, 0, 1, 2, 4)


def at(told, number):
    """Return the value of a whole step at an integer."""
    return sum(top * number ** k for k, (top, _) in enumerate(told))


def led(steps, start, word):
    """Return what a word leads an integer to."""
    for index in word:
        start = at(steps[index], start)
    return start


def bound_by_counting(steps):
    """Return the bound of some steps, counted up to."""
    bound = 1
    while not all(abs(told[-1][0]) * bound ** (len(told) - 1) >= bound + sum(
            abs(top) * bound ** k for k, (top, _) in enumerate(told[:-1])) for told in steps):
        bound += 1
    return bound


def met(steps, start, most):
    """Return the set of the integers of at most a size that are met from a start without leaving the size."""
    found, left = set(), [start]
    while left:
        number = left.pop()
        if abs(number) <= most and number not in found:
            found.add(number)
            left.extend(at(told, number) for told in steps)
    return found


def first_word(steps, start, goal, most):
    """Return the first word of at most a length that leads a start to a goal, or None."""
    for length in range(most + 1):
        for word in product(range(len(steps)), repeat=length):
            if led(steps, start, word) == goal:
                return word
    return None


def closed(steps, start, goal, numbers, most):
    """Return whether a list of integers is closed, by the words of [37]."""
    if goal in numbers or (abs(start) <= most and start not in numbers):
        return False
    return all(at(told, number) in numbers or abs(at(told, number)) > most for number in numbers for told in steps)


class Bound(unittest.TestCase):
    def test_example(self):
        self.assertTrue(same(choice_bound(EXAMPLE), 3))
        for steps, bound in (((step(0, 2),), 1), ((step(7, 2),), 7), ((step(7, -3),), 4), ((step(-8, 3),), 4),
                             ((step(9, 3), step(8, 3)), 5), ((power(2), step(7, 2)), 7), ((step(-6, 0, 1),), 3)):
            self.assertEqual(choice_bound(steps), bound)

    def test_against_counting(self):
        rng = new_random(411)
        for _ in range(100):
            steps = []
            for _ in range(rng.randint(1, 8)):
                numbers = [rng.randint(-9, 9) for _ in range(rng.randint(1, 4))]
                head = rng.choice((-3, -2, 2, 3)) if len(numbers) == 1 else rng.choice((-2, -1, 1, 2))
                steps.append(step(*numbers, head))
            self.assertEqual(choice_bound(tuple(steps)), bound_by_counting(steps))

    def test_not_counted_up_to(self):
        self.assertEqual(choice_bound((step(GREAT, 2), power(2))), GREAT)
        self.assertEqual(choice_bound((power(2), step(0, GREAT, -1))), GREAT + 1)
        self.assertEqual(choice_bound((step(-GREAT, 0, 1),)), 10 ** 30 + 1)
        self.assertEqual(choice_bound((power(64), step(GREAT, -GREAT))), 2)

    def test_one_step_has_its_bound(self):
        for told in (power(2), step(-5, 0, 1), step(3, -4, 0, 2), step(-997, 1, 1)):
            self.assertEqual(choice_bound((told,)), bounds_of(told)[0])

    def test_wrong_steps(self):
        for row, place in BAD_ROWS:
            self.assertEqual(refused(choice_bound, row), ("BadRow", place))
        for row, place in NOT_LET:
            self.assertEqual(refused(choice_bound, row), ("BadRow", (place,)))
        self.assertEqual(refused(choice_bound, (X, None)), ("BadRow", (1,)))


class Reach(unittest.TestCase):
    def test_examples(self):
        self.assertTrue(same(reach(EXAMPLE, (0, 1), (1, 1)), (1,)))
        self.assertEqual(reach(EXAMPLE, (0, 1), (3, 1)), (1, 1))
        self.assertIsNone(reach(EXAMPLE, (0, 1), (2, 1)))

    def test_the_empty_word(self):
        for start in (-GREAT, -3, 0, 999):
            self.assertEqual(refused(reach, EXAMPLE, (start, 1), (start, 1)),
                             ("TooGreat", 2000) if start == -GREAT else None)
        for start in (-999, -3, 0, 7, 999):
            self.assertTrue(same(reach(EXAMPLE, (start, 1), (start, 1)), ()))

    def test_the_least_of_the_shortest_words(self):
        for steps in SETS:
            for start, goal in product(STARTS, repeat=2):
                found = reach(steps, pair(start), pair(goal))
                expected = first_word(steps, start, goal, 4)
                if expected is not None or found is None or len(found) <= 4:
                    self.assertEqual(found, expected, (steps, start, goal))
                else:
                    self.assertEqual(led(steps, start, found), goal)
                if found is None:
                    numbers = tuple(pair(number) for number in sorted(met(steps, start, 50)) if abs(number) <= max(
                        choice_bound(steps), abs(goal)))
                    self.assertEqual(closed_list(steps, pair(start), pair(goal)), numbers)

    def test_long_words(self):
        steps = (step(998, -2), step(0, 2), step(-1, -2))
        for goal in (555, -998, 3, 640):
            found = reach(steps, (1, 1), pair(goal))
            if found is not None:
                self.assertEqual(led(steps, 1, found), goal)
                self.assertEqual(found, first_word(steps, 1, goal, 9) or found)
        self.assertEqual(reach((step(0, 2), step(1, 2)), (1, 1), (999, 1)), (1, 1, 1, 1, 0, 0, 1, 1, 1))
        self.assertEqual(reach((step(1, 2), step(0, 2)), (1, 1), (512, 1)), (1,) * 9)

    def test_starts_beyond(self):
        self.assertIsNone(reach(EXAMPLE, (GREAT, 1), (1, 1)))
        self.assertIsNone(reach(EXAMPLE, (4, 1), (3, 1)))
        self.assertEqual(reach(EXAMPLE, (4, 1), (9, 1)), (1,))
        self.assertEqual(closed_list(EXAMPLE, (4, 1), (3, 1)), ())
        self.assertEqual(closed_list(EXAMPLE, (-GREAT, 1), (3, 1)), ())
        self.assertEqual(count_words(EXAMPLE, (GREAT, 1), (1, 1), 60), 0)


class Closed(unittest.TestCase):
    def test_example(self):
        self.assertTrue(same(closed_list(EXAMPLE, (0, 1), (2, 1)), ((0, 1), (1, 1), (3, 1))))
        self.assertIs(is_closed(EXAMPLE, (0, 1), (2, 1), ((0, 1), (1, 1), (3, 1))), True)

    def test_against_the_words(self):
        for steps in SETS[:9]:
            for start, goal in product(STARTS[:5], repeat=2):
                most = max(choice_bound(steps), abs(goal))
                inside = met(steps, start, most)
                if goal in inside:
                    self.assertEqual(refused(closed_list, steps, pair(start), pair(goal)), ("NoRow",))
                    self.assertIs(is_closed(steps, pair(start), pair(goal), tuple(map(pair, sorted(inside)))), False)
                else:
                    found = closed_list(steps, pair(start), pair(goal))
                    self.assertTrue(same(found, tuple(map(pair, sorted(inside)))))
                    self.assertIs(is_closed(steps, pair(start), pair(goal), found), True)
                    for number in found:
                        less = tuple(one for one in found if one != number)
                        self.assertIs(is_closed(steps, pair(start), pair(goal), less), False)

    def test_greater_lists(self):
        for steps in SETS:
            most = max(choice_bound(steps), 2)
            for start, other in product(range(-3, 4), repeat=2):
                numbers = sorted(met(steps, start, most) | met(steps, other, most))
                value = tuple(map(pair, numbers))
                self.assertIs(is_closed(steps, pair(start), (2, 1), value), closed(steps, start, 2, numbers, most))

    def test_the_goal_as_start(self):
        self.assertEqual(refused(closed_list, EXAMPLE, (2, 1), (2, 1)), ("NoRow",))
        for value in ((), ((2, 1),), tuple((k, 1) for k in range(-3, 4))):
            self.assertIs(is_closed(EXAMPLE, (2, 1), (2, 1), value), False)

    def test_starts_beyond(self):
        self.assertIs(is_closed(EXAMPLE, (4, 1), (2, 1), ()), True)
        self.assertIs(is_closed(EXAMPLE, (4, 1), (2, 1), ((0, 1), (1, 1), (3, 1))), True)
        self.assertIs(is_closed(EXAMPLE, (4, 1), (2, 1), ((0, 1), (1, 1))), False)
        self.assertIs(is_closed(EXAMPLE, (4, 1), (2, 1), ((4, 1),)), False)
        self.assertIs(is_closed(EXAMPLE, (0, 1), (2, 1), ()), False)
        self.assertIs(is_closed(EXAMPLE, (0, 1), (2, 1), ((0, 1), (1, 1), (3, 1), (7, 1))), False)

    def test_values_of_any_kind(self):
        right = ((0, 1), (1, 1), (3, 1))
        for value in (None, 1, True, "list", (), [*right], right[::-1], (*right, (3, 1)), ((0, 1), *right), (0, 1, 3),
                      ((0, 1), (1, 1), 3), ((0, 1), (True, 1), (3, 1)), ((0, 1), (1, True), (3, 1)), ((0, 2), *right[1:]),
                      ((0, 1), (1, 2), (1, 1), (3, 1)), ((0, 1), (1.0, 1), (3, 1)), ((0, 1), [1, 1], (3, 1)), {(0, 1)},
                      ((0, 1), None, (3, 1)), ((0, 1), (1, 1), (2, 1), (3, 1)), {number: 1 for number in right}):
            self.assertIs(is_closed(EXAMPLE, (0, 1), (2, 1), value), False)


class Counting(unittest.TestCase):
    def test_against_all_words(self):
        for steps in SETS:
            for start, length in product(STARTS, range(4)):
                ends = [led(steps, start, word) for word in product(range(len(steps)), repeat=length)]
                for goal in (-5, -1, 0, 1, 2, 3, start):
                    self.assertTrue(same(count_words(steps, pair(start), pair(goal), length), ends.count(goal)))

    def test_lengths_0_and_60(self):
        self.assertEqual(count_words(EXAMPLE, (2, 1), (2, 1), 0), 1)
        self.assertEqual(count_words(EXAMPLE, (2, 1), (-1, 1), 0), 0)
        self.assertEqual(count_words((step(0, 2),) * 8, (0, 1), (0, 1), 60), 8 ** 60)
        self.assertEqual(count_words((step(0, 2), power(2)), (0, 1), (0, 1), 60), 2 ** 60)
        self.assertEqual(count_words((step(0, 0, 1), step(-1, 0, 1)), (1, 1), (1, 1), 60),
                         self.counted((step(0, 0, 1), step(-1, 0, 1)), 1, 1, 60))

    def counted(self, steps, start, goal, length):
        """Return the number of words by going back from the goal."""
        ways = {number: int(number == goal) for number in range(-9, 10)}
        for _ in range(length):
            ways = {number: sum(ways.get(at(told, number), 0) for told in steps) for number in ways}
        return ways[start]

    def test_back_from_the_goal(self):
        for steps in SETS[:8]:
            for start, goal, length in product((-2, 0, 1), (-1, 0, 2), (7, 23, 60)):
                self.assertEqual(count_words(steps, pair(start), pair(goal), length),
                                 self.counted(steps, start, goal, length))

    def test_wrong_lengths_behind_the_goal(self):
        for length in BAD_LENGTHS:
            found = refused(count_words, EXAMPLE, (0, 1), (GREAT, 1), length)
            self.assertEqual(found[0], "BadParameter")
            self.assertIs(found[1], length)
        self.assertEqual(refused(count_words, EXAMPLE, (0, 1), (1, 2), 61), ("BadParameter", (1, 2)))
        self.assertEqual(refused(count_words, EXAMPLE, (0, 1), (1000, 1), 60), ("TooGreat", 2000))


class Staying(unittest.TestCase):
    def keeping(self, steps):
        """Return the set of the integers that some endless row of choices keeps within the bound."""
        bound = choice_bound(steps)
        found = set(range(-bound, bound + 1))
        while True:
            fewer = {number for number in found if any(at(told, number) in found for told in steps)}
            if fewer == found:
                return found
            found = fewer

    def test_example(self):
        for start in (0, 1, 3):
            self.assertIsNone(stays(EXAMPLE, (start, 1)))
        way, back = stays(EXAMPLE, (-1, 1))
        self.assertNotEqual(back, ())
        self.assertIs(is_staying(EXAMPLE, (-1, 1), ((), (1,))), True)

    def test_against_striking_out(self):
        for steps in SETS:
            keeping = self.keeping(steps)
            bound = choice_bound(steps)
            for start in range(-bound - 2, bound + 3):
                found = stays(steps, pair(start))
                self.assertEqual(found is not None, start in keeping)
                if found is not None:
                    self.assertIs(is_staying(steps, pair(start), found), True)
                    middle = led(steps, start, found[0])
                    self.assertEqual(led(steps, middle, found[1]), middle)
                    self.assertNotEqual(found[1], ())
                    self.assertLessEqual(len(found[0]) + len(found[1]), 4000)

    def test_one_step_alone(self):
        for told in (step(-1, 0, 1), step(-2, 0, 1), step(0, -3, 0, 1), step(1, 0, -1), step(1, 0, 1), step(-12, 0, 1)):
            for start in range(-5, 6):
                self.assertEqual(stays((told,), pair(start)) is None, comes_round(told, pair(start)) is None)

    def test_papers_by_the_words(self):
        words = [word for length in range(4) for word in product((0, 1), repeat=length)]
        for steps in (EXAMPLE, SETS[2], SETS[3], SETS[8]):
            for start in (-2, -1, 0, 1, 5):
                for way, back in product(words, repeat=2):
                    middle = led(steps, start, way)
                    expected = back != () and led(steps, middle, back) == middle
                    self.assertIs(is_staying(steps, pair(start), (way, back)), expected)

    def test_many_indexes(self):
        steps = (step(0, 2), step(-1, 0, 1))
        self.assertIs(is_staying(steps, (0, 1), ((0,) * 3999, (0,))), True)
        self.assertIs(is_staying(steps, (0, 1), ((0,) * 2000, (0,) * 2000)), True)
        self.assertIs(is_staying(steps, (0, 1), ((), (0,) * 4000)), True)
        self.assertIs(is_staying(steps, (0, 1), ((0,) * 4000, (0,))), False)
        self.assertIs(is_staying(steps, (0, 1), ((), (0,) * 4001)), False)
        self.assertIs(is_staying(steps, (3, 1), ((0,) * 2000, (1,) * 2000)), False)
        # what leads beyond the bound is not led on
        self.assertIs(is_staying(steps, (1, 1), ((), (0, *[1] * 3999))), False)
        self.assertIs(is_staying(steps, (1, 1), ((0, *[1] * 3998), (1,))), False)

    def test_values_of_any_kind(self):
        for value in (None, 1, "ab", (), ((),), ((), (), ()), [(), (1,)], ((), [1]), ([], (1,)), ((), ()), ((), (2,)),
                      ((), (-1,)), ((), (True,)), ((), (1.0,)), ((), ("1",)), ((False,), (1,)), ((2,), (1,)), ((), 1),
                      ((), (None,)), ((), ((1,),)), {0: (), 1: (1,)}, (None, (1,)), ((), (Fraction(1),))):
            self.assertIs(is_staying(EXAMPLE, (-1, 1), value), False)


class Wrong(unittest.TestCase):
    def test_parameters_in_their_order(self):
        goals = {reach: 0, closed_list: 0, is_closed: 1, count_words: 1}
        for call, more in goals.items():
            rest = (None,) * more
            for row, place in BAD_ROWS:
                self.assertEqual(refused(call, row, None, None, *rest), ("BadRow", place))
            for row, place in NOT_LET:
                self.assertEqual(refused(call, row, None, None, *rest), ("BadRow", (place,)))
            for number in BAD_NUMBERS:
                self.assertEqual(refused(call, EXAMPLE, number, None, *rest), ("BadNumber", number))
                self.assertEqual(refused(call, EXAMPLE, (0, 1), number, *rest), ("BadNumber", number))
            for number in BAD_INTEGERS:
                self.assertEqual(refused(call, EXAMPLE, number, None, *rest), ("BadParameter", number))
                self.assertEqual(refused(call, EXAMPLE, (0, 1), number, *rest), ("BadParameter", number))
        for call, rest in ((stays, ()), (is_staying, (None,))):
            for row, place in BAD_ROWS:
                self.assertEqual(refused(call, row, None, *rest), ("BadRow", place))
            for row, place in NOT_LET:
                self.assertEqual(refused(call, row, None, *rest), ("BadRow", (place,)))
            for number in BAD_NUMBERS:
                self.assertEqual(refused(call, EXAMPLE, number, *rest), ("BadNumber", number))
            for number in BAD_INTEGERS:
                self.assertEqual(refused(call, (step(1000, 2),), number, *rest), ("BadParameter", number))

    def test_bounds_of_999_and_1000(self):
        for steps, goal, is_let in (((step(999, 2),), 5, True), ((step(-1000, 2),), 5, False), (EXAMPLE, 999, True),
                                    (EXAMPLE, -1000, False), ((step(0, 998, 1), power(2)), -999, True),
                                    ((power(2), step(0, 999, 1)), 0, False), (EXAMPLE, GREAT, False)):
            for call, rest in ((reach, ()), (closed_list, ()), (is_closed, (None,)), (count_words, (3,))):
                found = refused(call, steps, (0, 1), (goal, 1), *rest)
                self.assertEqual(found == ("TooGreat", 2000), not is_let)
        for steps, is_let in (((step(999, 2),), True), ((step(1000, -2),), False), ((step(0, 998, 1),), True),
                              ((power(2), step(0, 999, 1)), False)):
            for call, rest in ((stays, ()), (is_staying, (None,))):
                self.assertEqual(refused(call, steps, (GREAT, 1), *rest), None if is_let else ("TooGreat", 2000))


if __name__ == "__main__":
    unittest.main()
