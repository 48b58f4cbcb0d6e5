"""Points [30] and [31]: words, their wholes, and which of them are alike."""

import unittest
from fractions import Fraction
from itertools import product

from oracle import (
    BAD_COUNTS, BAD_NUMBERS, BAD_STEPS, GREAT, X, back, composed, new_random, pair, power, refused, same, some_step,
    step, value,
)
from stepswithin.kinds import dickson
from stepswithin.modulo import PRIME
from stepswithin.wordsof import (
    is_free_to, parting_number, relations, struck_out, word_classes, word_numbers, word_of, word_whole, words_alike,
)

H = step(0, 1, 1)
P2, P3 = power(2), power(3)
BAD_WORDS = [None, 5, True, "01", "", (), [0], {0}, (0,) * 9, (2,), (-1,), (0, 2), (0, True), (False,), (0.0,), ("0",),
             (None,), ((0,),), (Fraction(0),)]
BAD_ROWS = [(None, ()), ((), ()), ([H], ()), ((H,) * 9, ()), (5, ()), ((H, None), (1,)), ((None, H), (0,)), (H, (0,))]
BAD_MOSTS = BAD_COUNTS + [0, 9, GREAT]
# all of them, and what they have for relations, are of many kinds
SETS = [(P2, P3), (P2, H), (P2, step(0, -1), step(1, 0, 1)), (H, H), (X, P2), (step(1, 1), step(-1, 1)), (P2, P2, P3),
        (dickson(2, (1, 1)), dickson(3, (1, 1)), step(0, -1)), (composed(H, H), H), (step(0, -1), P2, P3),
        (step(0, 2), step(0, "1/2"), P2), (step(1, -1), step(2, -1)), (H, composed(H, P2), P2), (P2,), (X,),
        (step(0, PRIME, 1), H), (step(0, Fraction(1, PRIME), 1), step(0, 1, 1), step(0, -1))]


def words_to(size, most):
    """Return all words of 1 to `most` letters, ascending."""
    return [word for length in range(1, most + 1) for word in product(range(size), repeat=length)]


def wholes_to(steps, most):
    """Return a dict of the wholes of all words of 1 to `most` letters, ascending."""
    return {word: composed(*[steps[letter] for letter in word]) for word in words_to(len(steps), most)}


def most_for(steps):
    """Return a length for which the work is little."""
    greatest = max(len(told) - 1 for told in steps)
    return 3 if greatest > 2 or len(steps) > 2 else 4


class Words(unittest.TestCase):
    def test_wholes_and_numbers(self):
        rng = new_random(301)
        for _ in range(40):
            steps = tuple(some_step(rng, rng.randint(1, 3), 3, 2) for _ in range(rng.randint(1, 8)))
            word = tuple(rng.randrange(len(steps)) for _ in range(rng.randint(1, 3)))
            row = [steps[letter] for letter in word]
            self.assertTrue(same(word_whole(steps, word), composed(*row)))
            number, expected = Fraction(rng.randint(-5, 5), rng.randint(1, 4)), []
            start = pair(number)
            for told in row:
                number = value(told, number)
                expected.append(pair(number))
            self.assertTrue(same(word_numbers(steps, word, start), tuple(expected)))

    def test_one_and_eight_letters(self):
        self.assertEqual(word_whole((H, P2), (1,)), P2)
        self.assertEqual(word_whole((H, P2), (1,) * 8), power(256))
        self.assertEqual(word_numbers((P2, X), (0,) * 8, (2, 1))[-1], (2 ** 256, 1))
        self.assertEqual(word_whole((step(0, 1),) * 7 + (P2,), (7, 0, 1, 2, 3, 4, 5, 6)), P2)

    def test_too_great(self):
        for word, error in (((0,) * 8, None), ((1,) * 5, None), ((1, 1, 1, 1, 1, 0), ("TooGreat", 256)),
                            ((1,) * 6, ("TooGreat", 256)), ((2, 0, 0), None), ((2, 1, 0), ("TooGreat", 256))):
            steps = (P2, P3, power(64))
            self.assertEqual(refused(word_whole, steps, word), error)
            self.assertEqual(refused(word_numbers, steps, word, (3, 2)), error)

    def test_wrong_parameters_in_their_order(self):
        for steps, place in BAD_ROWS:
            self.assertEqual(refused(word_whole, steps, None), ("BadRow", place))
            self.assertEqual(refused(word_numbers, steps, None, None), ("BadRow", place))
            self.assertEqual(refused(words_alike, steps, None, None), ("BadRow", place))
        for word in BAD_WORDS:
            for found in (refused(word_whole, (H, power(64)), word), refused(word_numbers, (H, P2), word, None),
                          refused(words_alike, (H, P2), word, None), refused(words_alike, (H, power(64)), (1, 1), word)):
                self.assertEqual(found[0], "BadParameter")
                self.assertIs(found[1], word)
        for number in BAD_NUMBERS:
            self.assertEqual(refused(word_numbers, (power(64),), (0, 0), number), ("BadNumber", number))


class Alike(unittest.TestCase):
    def test_against_the_wholes(self):
        for steps in SETS:
            wholes = wholes_to(steps, 2)
            for one in wholes:
                for other in wholes:
                    self.assertIs(words_alike(steps, one, other), wholes[one] == wholes[other], (steps, one, other))

    def test_begun_alike(self):
        steps = (P2, P3, H)
        for one, other in (((2, 2, 0, 1), (2, 2, 1, 0)), ((0, 1, 0), (1, 0, 0)), ((2, 0, 1, 2), (2, 1, 0, 2))):
            self.assertIs(words_alike(steps, one, other), True)
        self.assertIs(words_alike(steps, (0, 2), (2, 0)), False)
        self.assertIs(words_alike((P2, step(0, -1)), (0,), (1, 0)), True)
        self.assertIs(words_alike((P2, step(0, -1)), (0,), (0, 1)), False)
        self.assertIs(words_alike((P2, step(0, -1)), (0, 1, 1), (0,)), True)
        self.assertIs(words_alike((P2, step(0, -1)), (0,) * 8, (0,) * 8), True)

    def test_degrees(self):
        steps = (P2, power(64), power(5))
        self.assertIs(words_alike(steps, (0,), (1,)), False)
        self.assertIs(words_alike(steps, (1, 0, 0), (2,)), False)
        self.assertIs(words_alike(steps, (1, 0, 0), (0,) * 8), True)
        for one, other in (((1, 2), (0,)), ((0,), (2, 1)), ((1, 2), (1, 1)), ((1, 1), (1, 1))):
            self.assertEqual(refused(words_alike, steps, one, other), ("TooGreat", 256))

    def test_what_a_prime_cannot_see(self):
        for number in (PRIME, PRIME ** 3, -PRIME):
            steps = (P2, step(number, 0, 1), step(0, 1 + number, 1), H)
            self.assertIs(words_alike(steps, (0,), (1,)), False)
            self.assertIs(words_alike(steps, (2,), (3,)), False)
            self.assertIs(is_free_to(steps[:2], 3), True)
        over = (step(0, Fraction(1, PRIME), 1), H)
        self.assertIs(words_alike(over, (0,), (1,)), False)
        self.assertIs(words_alike(over, (0, 0), (0, 0)), True)


class Parting(unittest.TestCase):
    def test_some(self):
        self.assertTrue(same(parting_number(P2, P3), 2))
        self.assertTrue(same(parting_number(X, P2), 2))
        self.assertTrue(same(parting_number(H, P2), 1))
        self.assertTrue(same(parting_number(step(1, 1), X), 0))
        self.assertEqual(refused(parting_number, H, H), ("NoRow",))

    def test_at_most_the_greater_degree(self):
        for most in range(2, 20):
            gone = [Fraction(1)]
            for number in range(most):
                gone = [(gone[k - 1] if k else 0) - (number * gone[k] if k < len(gone) else 0)
                        for k in range(len(gone) + 1)]
            told = step(*gone)
            other = (told[0], pair(Fraction(*told[1]) + 1), *told[2:])
            self.assertTrue(same(parting_number(other, X), most))
            self.assertTrue(same(parting_number(X, other), most))

    def test_against_the_values(self):
        rng = new_random(302)
        for _ in range(60):
            one, other = some_step(rng, rng.randint(1, 3), 1, 1), some_step(rng, rng.randint(1, 3), 1, 1)
            if one != other:
                expected = next(k for k in range(10) if value(one, Fraction(k)) != value(other, Fraction(k)))
                self.assertTrue(same(parting_number(one, other), expected))

    def test_wrong_steps_in_their_order(self):
        for told in BAD_STEPS:
            self.assertEqual(refused(parting_number, told, None), ("BadStep", told))
            self.assertEqual(refused(parting_number, X, told), ("BadStep", told))


class StruckOut(unittest.TestCase):
    def test_some(self):
        for one, other, found in (((0, 1, 2), (0, 2), ((1, 2), (2,))), ((0,), (0,), ((), ())), ((7,), (0,), ((7,), (0,))),
                                  ((0, 1), (0, 1, 1, 1), ((), (1, 1))), ((3, 3, 3), (3,), ((3, 3), ())),
                                  ((1, 0), (2, 0), ((1, 0), (2, 0))), ((5,) * 8, (5,) * 7 + (6,), ((5,), (6,)))):
            self.assertTrue(same(struck_out(one, other), found))

    def test_wrong_words_in_their_order(self):
        for word in [word for word in BAD_WORDS if word not in ((2,), (0, 2))] + [(8,), (0, 8)]:
            for found in (refused(struck_out, word, None), refused(struck_out, (7,), word)):
                self.assertEqual(found[0], "BadParameter")
                self.assertIs(found[1], word)


class AllWords(unittest.TestCase):
    def test_examples(self):
        self.assertTrue(same(relations((P2, P3), 2), (((0, 1), (1, 0)),)))
        self.assertEqual(relations((P2, H), 5), ())
        self.assertTrue(same(relations((P2, step(0, -1), step(1, 0, 1)), 2), (((0,), (1, 0)), ((2,), (1, 2)))))
        self.assertEqual(word_of((P2, step(0, -1), step(1, 0, 1)), X, 2), (1, 1))

    def test_relations_and_classes_against_the_wholes(self):
        for steps in SETS:
            for most in range(1, most_for(steps) + 1):
                wholes = wholes_to(steps, most)
                words = list(wholes)
                pairs = [(one, other) for at, one in enumerate(words) for other in words[at + 1:]
                         if wholes[one] == wholes[other]]
                classes = {}
                for word in words:
                    classes.setdefault(wholes[word], []).append(word)
                self.assertTrue(same(relations(steps, most), tuple(two for two in pairs if two[0][0] != two[1][0])))
                self.assertIs(is_free_to(steps, most), not pairs)
                self.assertTrue(same(word_classes(steps, most), tuple(map(tuple, classes.values()))))

    def test_words_of_steps(self):
        for steps in SETS:
            wholes = wholes_to(steps, 2)
            for goal in [*wholes.values(), step(5, 7), power(4), step(1, 2, 3)]:
                if max(abs(part) for number in goal for part in number) > GREAT:
                    continue
                expected = next((word for word, told in wholes.items() if told == goal), None)
                found = refused(word_of, steps, goal, 2)
                self.assertTrue(same(None if found == ("NoRow",) else word_of(steps, goal, 2), expected))

    def test_steps_that_commute(self):
        rng = new_random(303)
        straight = some_step(rng, 1, 3, 2)
        steps = tuple(composed(back(straight), told, straight) for told in (P2, P3))
        expected = word_classes((P2, P3), 5)
        self.assertEqual(word_classes(steps, 5), expected)
        self.assertEqual(len(expected), sum(length + 1 for length in range(1, 6)))
        self.assertEqual(relations(steps, 2), (((0, 1), (1, 0)),))

    def test_many_alike(self):
        self.assertEqual(word_classes((X,) * 7, 3), (tuple(words_to(7, 3)),))
        found = relations((H, H), 7)
        self.assertEqual(len(found), sum(4 ** (length - 1) for length in range(1, 8)))
        self.assertIs(is_free_to((X,), 1), True)
        self.assertIs(is_free_to((X,), 2), False)
        self.assertEqual(relations((X,), 8), ())
        self.assertEqual(word_classes((X,), 8), (tuple((0,) * k for k in range(1, 9)),))

    def test_relations_not_seen_in_shorter_words(self):
        steps = (H, composed(H, step(0, -1)), composed(step(0, -1), H))
        for most in (1, 2, 3, 4):
            wholes = wholes_to(steps, most)
            self.assertEqual(is_free_to(steps, most), len(set(wholes.values())) == len(wholes))
        steps = (composed(H, P2), P2, composed(P2, H), H)
        self.assertEqual(relations(steps, 2), tuple(
            (one, other) for one in words_to(4, 2) for other in words_to(4, 2)
            if (len(one), one) < (len(other), other) and one[0] != other[0]
            and composed(*[steps[k] for k in one]) == composed(*[steps[k] for k in other])))

    def test_how_many_words_are_let(self):
        for count, most, error in ((1, 8, None), (2, 7, None), (2, 8, 400), (3, 5, None), (3, 6, 400), (4, 4, None),
                                   (4, 5, 400), (7, 3, None), (8, 2, None), (8, 3, 400), (8, 8, 400)):
            steps = tuple(step(k, 1) for k in range(count))
            for call in (relations, is_free_to, word_classes):
                self.assertEqual(refused(call, steps, most), error and ("TooGreat", error))
            self.assertEqual(refused(word_of, steps, power(2), most), ("TooGreat", error) if error else ("NoRow",))

    def test_greatest_degrees(self):
        for steps, most, error in (((P2,), 8, None), ((P3,), 5, None), ((P3,), 6, 256), ((power(16), X), 2, None),
                                   ((X, power(17)), 2, 256), ((X, X, power(64)), 1, None), ((power(4), X), 4, None),
                                   ((P3,) * 3, 6, 400), ((P2, P3) * 4, 3, 400)):
            for call in (relations, is_free_to, word_classes):
                self.assertEqual(refused(call, steps, most), error and ("TooGreat", error))
            self.assertEqual(refused(word_of, steps, power(64), most) in (None, ("NoRow",)), error is None)
            if error:
                self.assertEqual(refused(word_of, steps, power(64), most), ("TooGreat", error))

    def test_wrong_parameters_in_their_order(self):
        for call in (relations, is_free_to, word_classes, lambda steps, most: word_of(steps, H, most)):
            for steps, place in BAD_ROWS:
                self.assertEqual(refused(call, steps, None), ("BadRow", place))
            for most in BAD_MOSTS:
                found = refused(call, (power(64),) * 8, most)
                self.assertEqual(found[0], "BadParameter")
                self.assertIs(found[1], most)
        for steps, place in BAD_ROWS:
            self.assertEqual(refused(word_of, steps, None, None), ("BadRow", place))
        for told in BAD_STEPS:
            self.assertEqual(refused(word_of, (power(64),) * 8, told, None), ("BadStep", told))


if __name__ == "__main__":
    unittest.main()
