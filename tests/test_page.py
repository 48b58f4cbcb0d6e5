"""Point [44]: pages, and what they say."""

import unittest
from fractions import Fraction

from oracle import (
    GREAT, X, composed, new_random, pair, power, refused, same, some_number, some_step, step, value,
)
from stepswithin.commuting import commutes
from stepswithin.doing import whole
from stepswithin.fullrows import is_unparted
from stepswithin.page import Page
from stepswithin.parting import is_first_part
from stepswithin.starts import comes_round
from stepswithin.texts import number_text, row_text, step_text

H = step(0, 1, 1)
GIVEN = """number A is 1/2
number B is 3/4
step F is [ 0 1 1 ]
step G is [ 0 1 2 2 1 ]
step V is [ 1 -1 ]
row R is [ 0 1 1 ] [ 0 1 1 ]
row S is [ 0 1 2 2 1 ]
"""
PLACE = 7
KINDS = {"number": ("A", "B"), "step": ("F", "G", "V"), "row": ("R", "S")}
# a saying of each kind, and the kinds of its words
SAYINGS = {
    "F at A is B": ("step", "at", "number", "is", "number"),
    "F leads A to B in 1": ("step", "leads", "number", "to", "number", "in", "1"),
    "F unparted": ("step", "unparted"), "G part F": ("step", "part", "step"), "F commutes G": ("step", "commutes", "step"),
    "F rounds A": ("step", "rounds", "number"), "R makes G": ("row", "makes", "step"), "R like S": ("row", "like", "row"),
    "A below B": ("number", "below", "number"),
}
BAD_NAMES = ["a", "Ab", "A_", "1A", "ABCDEFGHI", "A" * 9, "\u00c4", "A\u0661", "-A", "A/", "[", "is", "A.", "A\t", "\u0391"]
GOOD_NAMES = ["A", "Z", "A0", "Z9", "ABCDEFGH", "A1234567", "Q" * 8, "X9Y9", "IS"]


def rows_of(text):
    """Return the rows of a page."""
    return Page(text).rows


def truths(*sayings):
    """Return the truths of some sayings of what is given."""
    return [truth for _, truth in rows_of(GIVEN + "\n".join(sayings))]


def error(text):
    """Return the error that a page is refused by."""
    return refused(Page, text)


class Sayings(unittest.TestCase):
    def test_each_kind_said_and_denied(self):
        cases = {
            "F at A is B": True, "F at B is A": False, "F leads A to B in 1": True, "F leads A to A in 1": False,
            "F unparted": True, "G unparted": False, "V unparted": False, "G part F": True, "F part G": False, "G part V": True,
            "F commutes G": True, "V commutes F": False, "F rounds A": False, "R makes G": True, "R makes F": False,
            "S makes G": True, "R like S": True, "S like R": True, "R like R": True, "A below B": True, "B below A": False,
            "A below A": False, "V at A is A": True, "V leads A to A in 60": True, "F commutes F": True, "F part F": True,
        }
        for saying, truth in cases.items():
            self.assertEqual(truths(f"say {saying}", f"deny {saying}"), [truth, not truth], saying)

    def test_rounds(self):
        for told, number, truth in ((step(-1, 0, 1), 0, True), (step(-1, 0, 1), "1/2", False), (step("-29/16", 0, 1), "1/4", True),
                                    (power(2), -1, True), (power(2), 2, False)):
            text = f"step F is {step_text(told)}\nnumber X is {number_text(pair(number))}\nsay F rounds X\ndeny F rounds X"
            self.assertEqual(rows_of(text), ((2, truth), (3, not truth)))

    def test_against_the_parts(self):
        rng = new_random(451)
        for _ in range(60):
            first, last = some_step(rng, rng.randint(1, 2), 3, 2), some_step(rng, rng.randint(1, 3), 3, 2)
            told = rng.choice((composed(first, last), some_step(rng, 4, 3, 2), first))
            number, other = some_number(rng), some_number(rng)
            if rng.randint(0, 1):
                other = value(told, number)
            row = (first, last)
            text = "\n".join([
                f"step F is {step_text(told)}", f"step G is {step_text(first)}", f"number X is {number_text(pair(number))}",
                f"number Y is {number_text(pair(other))}", f"row R is {row_text(row)}", f"row S is {row_text((told,))}",
                "say F at X is Y", "say F unparted", "say F part G", "say F commutes G", "say R makes F", "say R like S",
                "say X below Y", "say F leads X to Y in 1", "deny F at X is Y"])
            leads = value(told, number) == other
            self.assertEqual([truth for _, truth in Page(text)], [
                leads, is_unparted(told), is_first_part(told, first), commutes(told, first), whole(row) == told,
                whole(row) == told, number < other, leads, not leads])
            if len(told) > 2:
                self.assertEqual(rows_of(text + "\nsay F rounds X")[-1], (15, comes_round(told, pair(number)) is not None))

    def test_numbers_led_1_and_60_times(self):
        text = "step F is [ 1 1 ]\nnumber X is 1/2\nnumber Y is 121/2\nnumber Z is 3/2\n"
        self.assertEqual(rows_of(text + "say F leads X to Y in 60\nsay F leads X to Z in 1\nsay F leads X to Y in 59"),
                         ((4, True), (5, True), (6, False)))
        for word in ("0", "61", "-1", "01", "1/2", "x", "+1", "1.0", "060", "9" * 70, "F"):
            self.assertEqual(error(text + f"say F leads X to Y in {word}"), ("BadText", 4, 7))

    def test_great_numbers_on_the_way(self):
        text = f"step F is [ 1 1 ]\nstep G is [ 0 1/2 ]\nnumber X is {GREAT - 1}\nnumber Y is 1/{GREAT}\n"
        text += f"number Z is {GREAT}\nstep H is [ 0 0 1 ]\n"
        self.assertEqual(rows_of(text + "say F leads X to Z in 1"), ((6, True),))
        for saying in ("F leads X to Z in 2", "G leads Y to X in 1", "H leads X to Z in 60", "F leads Z to Z in 1"):
            self.assertEqual(error(text + f"say {saying}"), ("TooGreat", GREAT))
            self.assertEqual(error(text + f"deny {saying}"), ("TooGreat", GREAT))
        self.assertEqual(rows_of(text + "say H at X is Z"), ((6, False),))

    def test_errors_of_the_work_in_turn(self):
        dense = " ".join(["[", *["1"] * 65, "]"])
        text = f"step F is {dense}\nrow R is {dense} {dense}\nrow S is [ 0 1 ]\nstep V is [ 0 1 ]\nnumber X is 1\nnumber Z is {GREAT}\n"
        text += "step W is [ -1000000 0 1000 ]\nstep T is [ -1 0 1 ]\n"
        for saying, found in (("R makes V", ("TooGreat", 256)), ("R like S", ("TooGreat", 256)), ("S like R", ("TooGreat", 256)),
                              ("F commutes F", ("TooGreat", 256)), ("V rounds X", ("BadParameter", X)), ("T rounds X", None),
                              ("V leads Z to X in 60", None), ("F leads Z to X in 1", ("TooGreat", GREAT))):
            self.assertEqual(error(text + f"say {saying}"), found)
        self.assertEqual(error(text + "say R like S\nsay V rounds X"), ("TooGreat", 256))
        self.assertEqual(error(text + "say X below Z\nsay V rounds X\nsay R like S"), ("BadParameter", X))
        self.assertEqual(error(text + "say V rounds X\nsay R like S x"), ("BadText", 9, 4))
        self.assertEqual(error(text + "say V rounds X\nnumber Y is 0/0"), ("BadText", 9, 3))
        self.assertEqual(error(text + "say V rounds X\nstep Y is [ 1 ]"), ("BadStep", ((1, 1),)))

    def test_degrees_of_rows(self):
        rows = {"A": (power(16), power(16)), "B": (power(64), power(4)), "C": (power(3),) * 5, "D": (power(64), power(5))}
        text = "".join(f"row {name} is {row_text(row)}\n" for name, row in rows.items())
        self.assertEqual(rows_of(text + "say A like B\nsay A like C"), ((4, True), (5, False)))
        for saying in ("A like D", "D like A", "D like D", "C like D"):
            self.assertEqual(error(text + f"say {saying}"), ("TooGreat", 256))


class Lines(unittest.TestCase):
    def test_numbers_of_lines(self):
        text = "\n\n number   A is 1/2 \n   \nsay A below A\n\ndeny A below A\n\n"
        self.assertTrue(same(rows_of(text), ((4, False), (6, True))))
        self.assertEqual(rows_of("number A is 1"), ())

    def test_values(self):
        page = Page(GIVEN)
        self.assertTrue(same(page.named("A"), ("number", (1, 2))))
        self.assertTrue(same(page.named("F"), ("step", H)))
        self.assertTrue(same(page.named("V"), ("step", step(1, -1))))
        self.assertTrue(same(page.named("R"), ("row", (H, H))))
        self.assertTrue(same(page.named("S"), ("row", (step(0, 1, 2, 2, 1),))))
        for name in ("C", "", "a", None, 1, ["A"], ("A",), {}, True, "AA"):
            found = refused(page.named, name)
            self.assertEqual(found[0], "BadParameter")
            self.assertIs(found[1], name)

    def test_names(self):
        for name in GOOD_NAMES:
            page = Page(f"number {name} is 5\ndeny {name} below {name}")
            self.assertEqual((page.named(name), page.rows), (("number", (5, 1)), ((1, True),)))
        for name in BAD_NAMES:
            for kind in ("number", "step", "row"):
                self.assertEqual(error(f"{kind} {name} is 5"), ("BadText", 0, 1), name)
        for name in ("A", "F", "R"):
            for line in (f"number {name} is 1", f"step {name} is [ 0 1 ]", f"row {name} is [ 0 1 ]"):
                self.assertEqual(error(GIVEN + line), ("BadText", PLACE, 1))

    def test_no_text(self):
        for text in (None, 1, True, (), ["say"], b"say", "", "   ", "\n", " \n  \n", "\n" * 500):
            self.assertTrue(same(error(text), ("BadText", 0, 0)))

    def test_200_and_201_lines(self):
        self.assertIsNone(error("number A is 1" + "\n" * 199))
        self.assertEqual(error("number A is 1" + "\n" * 200), ("TooGreat", 200))
        self.assertEqual(error("x\n" + "\n" * 199), ("TooGreat", 200))
        text = "number A is 1\n" + "\n".join(["deny A below A"] * 199)
        self.assertEqual(len(Page(text)), 199)
        self.assertEqual(error(text + "\n"), ("TooGreat", 200))
        self.assertEqual(error("\n" * 200 + "number A is 1"), ("TooGreat", 200))

    def test_first_words(self):
        for word in ("numbers", "Number", "x", "A", "[", "say,", "\tsay", "is", "saydeny", "denies", "\u00a0"):
            self.assertEqual(error(f"number A is 1\n\n {word} A is 2"), ("BadText", 2, 0))

    def test_lines_that_end_too_early(self):
        for line in ("number B is -1/3", "step G is [ 0 1/2 3 ]", "row R is [ 0 1 ] [ 0 2 ]"):
            words = line.split()
            whole_ends = [len(words)] + ([7] if words[0] == "row" else [])
            for size in range(1, len(words)):
                text = "number A is 1\n" + " ".join(words[:size])
                self.assertEqual(error(text), None if size in whole_ends else ("BadText", 1, size))
        for saying in SAYINGS:
            words = ["say", *saying.split()]
            for size in range(1, len(words)):
                self.assertEqual(error(GIVEN + " ".join(words[:size])), ("BadText", PLACE, size))

    def test_wrong_words_of_lines(self):
        for line in ("number C is -1/3", "step C is [ 0 1/2 3 ]", "row C is [ 0 1 ] [ 0 2 ]"):
            words = line.split()
            for place in range(len(words) + 1):
                wrong = words[:place] + ["?"] + words[place + 1:]
                self.assertEqual(error(GIVEN + " ".join(wrong)), ("BadText", PLACE, place))
        for word in ("01", "2/4", "1/1", "-0", "+1", "1" * 62, "\u0661"):
            self.assertEqual(error(f"number A is {word}"), ("BadText", 0, 3))
            self.assertEqual(error(f"step A is [ 0 {word} ]"), ("BadText", 0, 5))
        self.assertEqual(error("number A is 1 2"), ("BadText", 0, 4))
        self.assertEqual(error("step A is [ 0 1 ] [ 0 1 ]"), ("BadText", 0, 7))
        self.assertEqual(error("row A is [ 0 1 ] 5"), ("BadText", 0, 7))

    def test_wrong_words_of_sayings(self):
        for saying, kinds in SAYINGS.items():
            words = ["say", *saying.split()]
            self.assertIsNone(error(GIVEN + " ".join(words)))
            self.assertEqual(error(GIVEN + " ".join(words) + " A"), ("BadText", PLACE, len(words)))
            for place, kind in enumerate(kinds, start=1):
                # a first name of another kind is refused by the word behind it
                others = [name for other, names in KINDS.items() if other != kind and place > 1 for name in names]
                for word in ["?", "C", "a", "[", *others]:
                    line = " ".join(words[:place] + [word] + words[place + 1:])
                    self.assertEqual(error(GIVEN + line), ("BadText", PLACE, place), line)

    def test_the_word_behind_a_name_hangs_on_its_kind(self):
        verbs = {"number": ("below",), "step": ("at", "leads", "unparted", "part", "commutes", "rounds"), "row": ("makes", "like")}
        for kind, names in KINDS.items():
            for other, words in verbs.items():
                for word in words:
                    place = error(GIVEN + f"deny {names[0]} {word}")
                    if word == "unparted" and kind == "step":
                        self.assertIsNone(place)
                    else:
                        self.assertEqual(place, ("BadText", PLACE, 3 if kind == other else 2))

    def test_names_given_in_lines_ahead(self):
        self.assertEqual(error("number A is 1\nsay A below B\nnumber B is 2"), ("BadText", 1, 3))
        self.assertEqual(error("say A below A\nnumber A is 1"), ("BadText", 0, 1))
        self.assertEqual(rows_of("number A is 1\nnumber B is 2\nsay A below B"), ((2, True),))

    def test_errors_behind_the_words_of_a_line(self):
        great = str(GREAT + 1)
        self.assertEqual(error(f"number A is {great}\nx"), ("BadNumber", (GREAT + 1, 1)))
        self.assertEqual(error(f"number A is {great} x\n"), ("BadText", 0, 4))
        self.assertEqual(error(f"number A is 1\nstep F is [ 1 0 ]\nnumber B is {great}"), ("BadStep", ((1, 1), (0, 1))))
        self.assertEqual(error("step F is [ 1 ] x"), ("BadText", 0, 6))
        self.assertEqual(error("row R is [ 0 1 ] [ 1 ]\nx"), ("BadRow", (1,)))
        self.assertEqual(error("row R is " + "[ 0 1 ] " * 9), ("BadRow", ()))
        self.assertEqual(error("row R is " + "[ 0 1 ] " * 9 + "x"), ("BadText", 0, 39))
        self.assertEqual(error(f"x\nnumber A is {great}"), ("BadText", 0, 0))

    def test_600_and_601_words_of_a_line(self):
        self.assertEqual(error("step F is [ " + "1 " * 595 + "]"), ("BadStep", ((1, 1),) * 595))
        self.assertEqual(error("step F is [ " + "1 " * 596 + "]"), ("TooGreat", 600))
        self.assertEqual(error("step F is [ " + "1 " * 595 + "] x"), ("TooGreat", 600))
        self.assertEqual(error("number A is 1\nstep F is [ " + "1 " * 596), ("BadText", 1, 600))
        self.assertEqual(error("row R is [ " + "1 " * 9999), ("TooGreat", 600))
        self.assertEqual(error("number A is 1 " + "1 " * 700), ("BadText", 0, 4))
        self.assertEqual(error(GIVEN + "say F unparted " + "x " * 700), ("BadText", PLACE, 3))


class Whole(unittest.TestCase):
    def test_rows_length_and_iteration(self):
        page = Page(GIVEN + "say F unparted\n\ndeny F unparted")
        self.assertTrue(same(page.rows, ((7, True), (9, False))))
        self.assertEqual((len(page), list(page), tuple(page)), (2, [(7, True), (9, False)], page.rows))

    def test_all_true(self):
        self.assertIs(Page(GIVEN).all_true(), True)
        self.assertIs(Page(GIVEN + "say F unparted\ndeny G unparted").all_true(), True)
        self.assertIs(Page(GIVEN + "say F unparted\nsay G unparted").all_true(), False)
        self.assertIs(Page(GIVEN + "deny F unparted").all_true(), False)

    def test_texts(self):
        page = Page("\n  number  A   is 1/2 \n\n step F  is [ 0   1 ]\nsay  F at A is A\n")
        self.assertEqual(str(page), "number A is 1/2\nstep F is [ 0 1 ]\nsay F at A is A")
        self.assertEqual(page.rows, ((4, True),))
        again = Page(str(page))
        self.assertTrue(again == page)
        self.assertEqual(again.rows, ((2, True),))
        self.assertEqual(str(again), str(page))

    def test_equal_pages(self):
        text = GIVEN + "say F unparted"
        self.assertTrue(Page(text) == Page("\n" + text.replace(" ", "  ") + "\n\n"))
        for other in (Page(GIVEN), Page(GIVEN + "deny F unparted"), Page(text + "\nsay F unparted"), None, text, 1):
            self.assertFalse(Page(text) == other)
            self.assertTrue(Page(text) != other)
        self.assertFalse(Page("number A is 1\nnumber B is 2") == Page("number B is 2\nnumber A is 1"))

    def test_keywords(self):
        page = Page(text=GIVEN)
        self.assertEqual(page.named(name="A"), ("number", (1, 2)))
        self.assertIn("rows", vars(page))


class Numbers(unittest.TestCase):
    def test_below_by_size(self):
        numbers = ["-5", "-7/2", "-1/3", "0", "1/3", "2/5", "1/2", f"{GREAT - 1}/{GREAT}", "1", str(GREAT)]
        text = "".join(f"number A{k} is {word}\n" for k, word in enumerate(numbers))
        for i in range(len(numbers)):
            for j in range(len(numbers)):
                self.assertEqual(rows_of(text + f"say A{i} below A{j}"), ((len(numbers), i < j),))
                self.assertEqual(Fraction(numbers[i]) < Fraction(numbers[j]), i < j)


if __name__ == "__main__":
    unittest.main()
