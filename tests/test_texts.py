"""Point [43]: numbers, steps and rows as texts."""

import unittest
from math import gcd

from oracle import BAD_NUMBERS, BAD_STEPS, GREAT, X, new_random, pair, power, refused, same, some_number, some_step, step
from stepswithin.texts import number_text, read_number, read_row, read_step, row_text, step_text

NO_TEXTS = [None, 1, True, (), ("1",), ["1"], b"1", {"1": 1}, 1.5]
GOOD_WORDS = {
    "0": (0, 1), "1": (1, 1), "-1": (-1, 1), "10": (10, 1), "-70": (-70, 1), "1/2": (1, 2), "-3/7": (-3, 7), "5/2": (5, 2),
    "10/21": (10, 21), "-100/9": (-100, 9), str(GREAT): (GREAT, 1), str(-GREAT): (-GREAT, 1), f"1/{GREAT}": (1, GREAT),
    f"-{GREAT - 1}/{GREAT}": (1 - GREAT, GREAT),
}
BAD_WORDS = [
    "+1", "01", "-01", "00", "-0", "--1", "-", "1.0", "1e3", "x", "1/1", "1/0", "1/-2", "-1/-2", "1/+2", "2/4", "-6/3", "0/1",
    "0/2", "-0/2", "1/02", "01/2", "1/", "/2", "/", "1//2", "1/2/3", "1\t", "\t1", "1\n", "\n", "1\u00a0", "\u0661", "\u00b2", "1_0",
    "[", "]", "[1", "1]", "1,", "0x1", "-/2", "\u2212" + "1", "1/\u0662", "1" * 62, "-" + "1" * 62, "1/" + "3" * 62,
    "1" * 5000, "1/" + "7" * 5000, "True", "None", "(1,", "10" * 31,
]


def some_texts(rng, words):
    """Return a text of some words with blanks of any number between them."""
    return " " * rng.randint(0, 3) + "".join(word + " " * rng.randint(1, 4) for word in words).rstrip(" ") + " " * rng.randint(0, 3)


class Written(unittest.TestCase):
    def test_examples(self):
        self.assertTrue(same(step_text(((1, 2), (-3, 1))), "[ 1/2 -3 ]"))
        for word, number in GOOD_WORDS.items():
            self.assertTrue(same(number_text(number), word))
        self.assertEqual(row_text((X,)), "[ 0 1 ]")
        self.assertEqual(row_text((X, step("-1/3", 0, 2))), "[ 0 1 ] [ -1/3 0 2 ]")

    def test_read_back(self):
        rng = new_random(441)
        for _ in range(100):
            number, told = pair(some_number(rng, 99, 40)), some_step(rng, rng.randint(1, 9), 50, 9)
            row = tuple(some_step(rng, rng.randint(1, 5)) for _ in range(rng.randint(1, 8)))
            for write, read, thing in ((number_text, read_number, number), (step_text, read_step, told), (row_text, read_row, row)):
                text = write(thing)
                self.assertTrue(same(read(text), thing))
                self.assertTrue(same(read(some_texts(rng, text.split(" "))), thing))
                self.assertEqual(" ".join(text.split()), text)

    def test_greatest_things(self):
        dense = ((-GREAT, GREAT - 1),) * 65
        self.assertEqual(read_step(step_text(dense)), dense)
        row = (dense,) * 8
        self.assertEqual(len(row_text(row).split()), 536)
        self.assertEqual(read_row(row_text(row)), row)

    def test_wrong_things(self):
        for number in BAD_NUMBERS:
            self.assertEqual(refused(number_text, number), ("BadNumber", number))
        for told in BAD_STEPS:
            self.assertEqual(refused(step_text, told), ("BadStep", told))
            self.assertEqual(refused(row_text, (X, told)), ("BadRow", (1,)))
        for row in (None, (), [X], (X,) * 9):
            self.assertEqual(refused(row_text, row), ("BadRow", ()))


class ReadNumbers(unittest.TestCase):
    def test_words(self):
        for word, number in GOOD_WORDS.items():
            for text in (word, f"  {word}", f"{word}   ", f" {word} "):
                self.assertTrue(same(read_number(text), number))

    def test_words_that_are_none(self):
        for word in BAD_WORDS:
            self.assertEqual(refused(read_number, word), ("BadText", 0, 0), word)
            self.assertEqual(refused(read_number, f"  {word}  1"), ("BadText", 0, 0), word)
            self.assertEqual(refused(read_number, f"1 {word}"), ("BadText", 0, 1), word)

    def test_what_is_no_text_of_a_number(self):
        for call in (read_number, read_step, read_row):
            for value in NO_TEXTS:
                self.assertTrue(same(refused(call, value), ("BadText", 0, 0)))
            for text in ("", " ", "     "):
                self.assertEqual(refused(call, text), ("BadText", 0, 0))
        self.assertEqual(refused(read_number, "1 2"), ("BadText", 0, 1))
        self.assertEqual(refused(read_number, "1 " * 700), ("BadText", 0, 1))

    def test_figures_to_61_and_62(self):
        for text, number in (("9" * 61, (10 ** 61 - 1, 1)), ("-" + "9" * 61, (1 - 10 ** 61, 1)), (str(GREAT + 1), (GREAT + 1, 1)),
                             ("1/" + "9" * 61, (1, 10 ** 61 - 1)), ("-7/1" + "0" * 59 + "1", (-7, GREAT + 1))):
            self.assertEqual(gcd(*number), 1)
            self.assertTrue(same(refused(read_number, text), ("BadNumber", number)))
        for text in ("1" + "0" * 61, "-1" + "0" * 61, "1/1" + "0" * 61, "9" * 62, "9" * 62 + "/2"):
            self.assertEqual(refused(read_number, text), ("BadText", 0, 0))


class ReadSteps(unittest.TestCase):
    def test_places(self):
        for text, place in (("[ 0 1 ] 1", 4), ("[ 0 1 ] ]", 4), ("[ 0 1 ] [ 0 1 ]", 4), ("1 [ 0 1 ]", 0), ("] 1 ]", 0), ("[ ]", 1),
                            ("[", 1), ("[ 1", 2), ("[ 0 1", 3), ("[ 0 x ]", 2), ("[ 0 [ 1 ]", 2), ("[ [ 1 ]", 1), ("[0 1 ]", 0),
                            ("[ 0 1]", 2), ("[ 0 1 ]]", 3), ("[ 0, 1 ]", 1), ("[\t0 1 ]", 0), ("( 0 1 )", 0), ("[ 0 1\n]", 2)):
            self.assertTrue(same(refused(read_step, text), ("BadText", 0, place)), text)

    def test_each_bad_word_at_each_place(self):
        for word in BAD_WORDS:
            if word != "[":
                self.assertEqual(refused(read_step, f"{word} 0 1 ]"), ("BadText", 0, 0))
            if word != "]":
                self.assertEqual(refused(read_step, f"[ 0 1/2 {word} 1 ]"), ("BadText", 0, 3))
            self.assertEqual(refused(read_step, f"[ 0 1/2 1 ] {word}"), ("BadText", 0, 5))

    def test_errors_of_what_is_read(self):
        for text, told in (("[ 1 ]", ((1, 1),)), ("[ 1 0 ]", ((1, 1), (0, 1))), ("[ 0 ]", ((0, 1),)),
                           (f"[ 0 {GREAT + 1} ]", ((0, 1), (GREAT + 1, 1))), ("[ " + "1 " * 66 + "]", ((1, 1),) * 66)):
            self.assertTrue(same(refused(read_step, text), ("BadStep", told)))
        self.assertEqual(refused(read_step, "[ 1 0 ] x"), ("BadText", 0, 4))
        self.assertEqual(read_step("[ " + "0 " * 64 + "1 ]"), power(64))

    def test_600_and_601_words(self):
        self.assertEqual(refused(read_step, "[ " + "1 " * 598 + "]"), ("BadStep", ((1, 1),) * 598))
        self.assertEqual(refused(read_step, "[ " + "1 " * 599), ("BadText", 0, 600))
        for text in ("[ " + "1 " * 599 + "]", "[ " + "1 " * 600, "[ " + "1 " * 598 + "] ]", "[ " + "1 " * 599 + "x",
                     "[ " + "1 " * 9000, "[ " + "1 " * 598 + "] x y z"):
            self.assertEqual(refused(read_step, text), ("TooGreat", 600))
        self.assertEqual(refused(read_step, "[ " + "1 " * 598 + "x ]"), ("BadText", 0, 599))
        self.assertEqual(refused(read_step, "[ x " + "1 " * 700), ("BadText", 0, 1))
        self.assertEqual(refused(read_step, "[ 0 1 ] " + "1 " * 700), ("BadText", 0, 4))


class ReadRows(unittest.TestCase):
    def test_places(self):
        for text, place in (("[ 0 1 ] 1", 4), ("[ 0 1 ] ]", 4), ("[ 0 1 ] [", 5), ("[ 0 1 ] [ ]", 5), ("[ 0 1 ] [ 0 1", 7),
                            ("[ 0 1 ] [ 0 x ]", 6), ("0 1", 0), ("[ 0 1 ] [ 0 1 ] x", 8), ("[ 0 1 ] [0 1 ]", 4)):
            self.assertTrue(same(refused(read_row, text), ("BadText", 0, place)), text)

    def test_errors_of_what_is_read(self):
        self.assertEqual(refused(read_row, "[ 0 1 ] " * 9), ("BadRow", ()))
        self.assertEqual(refused(read_row, "[ 0 1 ] [ 1 ] [ 0 ]"), ("BadRow", (1,)))
        self.assertEqual(refused(read_row, f"[ {GREAT + 1} 1 ]"), ("BadRow", (0,)))
        self.assertEqual(refused(read_row, "[ 1 ] " * 9 + "x"), ("BadText", 0, 27))
        self.assertEqual(read_row("[ 0 1 ] " * 8), (X,) * 8)

    def test_600_and_601_words(self):
        self.assertEqual(refused(read_row, "[ 0 1 ] " * 150), ("BadRow", ()))
        self.assertEqual(refused(read_row, "[ 0 1 ] " * 151), ("TooGreat", 600))
        self.assertEqual(refused(read_row, "[ 0 1 ] " * 150 + "x"), ("TooGreat", 600))
        self.assertEqual(refused(read_row, "[ 0 1 ] " * 149 + "[ 0 1"), ("BadText", 0, 599))
        self.assertEqual(refused(read_row, "[ 0 1 ] " * 149 + "[ 0 1 1"), ("BadText", 0, 600))
        self.assertEqual(refused(read_row, "[ 0 1 ] " * 149 + "[ 0 1 x ]"), ("BadText", 0, 599))


if __name__ == "__main__":
    unittest.main()
