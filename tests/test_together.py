"""What one part tells of steps is what the other parts tell of them."""

import unittest
from fractions import Fraction

from oracle import GREAT, back, composed, new_random, pair, power, refused, same, some_step, step, value
from stepswithin import choices, starts, twostarts
from stepswithin.again import roots_of
from stepswithin.commonwhole import common_whole
from stepswithin.commuting import commutes, commuting_with
from stepswithin.doing import again, numbers_along, whole
from stepswithin.fullrows import full_rows, is_unparted
from stepswithin.house import House
from stepswithin.page import Page
from stepswithin.parting import first_part, is_first_part, last_part
from stepswithin.parts import first_degrees, first_parts
from stepswithin.quotients import firsts
from stepswithin.rests import rest_after, rest_at, rest_ring, ring_rests, same_rests
from stepswithin.roundabout import turned_round
from stepswithin.steps import value_at
from stepswithin.straight import own, partners
from stepswithin.texts import number_text, read_row, read_step, row_text, step_text
from stepswithin.wordsof import word_numbers, word_whole, words_alike

H = step(0, 1, 1)
# with starts of many kinds, all with few numbers within their bounds
STEPS = [
    step(-1, 0, 1), step("-29/16", 0, 1), step(-2, 0, 1), step(0, 0, 0, -1), step(0, -3, 0, 1), step("-3/4", 0, 1),
    step("-21/16", 0, 1), step(1, "-3/2", "1/2"), step(1, 0, -1), step(0, "3/2", 0, "-1/2"), step(-1, 0, 0, 0, 1),
    again(step(-1, 0, 1), 2), again(step(-2, 0, 1), 2), composed(step(-1, 0, 1), step(0, 0, -1)), H,
]


def moved(straight, numbers):
    """Return the ascending tuple of the numbers to which a step leads some numbers."""
    return tuple(pair(number) for number in sorted({value(straight, Fraction(*number)) for number in numbers}))


class Leading(unittest.TestCase):
    def test_one_way_of_leading(self):
        rng = new_random(461)
        for _ in range(40):
            first, last = some_step(rng, rng.randint(1, 2), 4, 2), some_step(rng, rng.randint(1, 2), 4, 2)
            start = pair(Fraction(rng.randint(-5, 5), rng.randint(1, 3)))
            along = numbers_along((first, last, first), start)
            self.assertEqual(word_numbers((first, last), (0, 1, 0), start), along)
            told = House()
            told.follow((("put", 0, "step", first), ("put", 1, "step", last), ("put", 2, "number", start),
                         ("lead", 0, 2, 1), ("lead", 1, 2, 1), ("lead", 0, 2, 1), ("behind", 1, 0), ("behind", 0, 1)))
            self.assertEqual(told.thing(2), ("number", along[-1]))
            self.assertEqual(told.thing(0), ("step", whole((first, last, first))))
            self.assertEqual(value_at(told.thing(0)[1], start), along[-1])
            page = Page("\n".join([
                f"step F is {step_text(told.thing(0)[1])}", f"row R is {row_text((first, last, first))}",
                f"number X is {number_text(start)}", f"number Y is {number_text(along[-1])}",
                "say R makes F", "say F at X is Y", "say F leads X to Y in 1"]))
            self.assertIs(page.all_true(), True)
            self.assertEqual(word_whole((first, last), (0, 1, 0)), told.thing(0)[1])

    def test_a_step_done_again(self):
        rng = new_random(462)
        for _ in range(25):
            told, start = some_step(rng, 2, 3, 2), pair(Fraction(rng.randint(-3, 3), 2))
            thrice = again(told, 3)
            number = numbers_along((told,) * 3, start)[-1]
            page = Page(f"step F is {step_text(told)}\nstep G is {step_text(thrice)}\nnumber X is {number_text(start)}\n"
                        f"number Y is {number_text(number)}\nsay F leads X to Y in 3\nsay G at X is Y\nsay F commutes G\n"
                        "say G part F\ndeny G unparted")
            self.assertEqual([truth for _, truth in page], [True] * 5)
            self.assertIn(told, roots_of(thrice, 3))
            self.assertIs(words_alike((told, thrice), (0, 0, 0), (1,)), True)

    def test_rests_and_numbers(self):
        rng = new_random(463)
        for _ in range(40):
            told = step(*[rng.randint(-5, 5) for _ in range(rng.randint(1, 3))], rng.choice((-2, -1, 1, 3)))
            number, modulo, times = rng.randint(-9, 9), rng.randint(2, 50), rng.randint(0, 4)
            at = (number, 1)
            for _ in range(times):
                at = value_at(told, at)
            self.assertEqual(rest_after(told, modulo, number % modulo, times), at[0] % modulo)
            self.assertEqual(rest_at(again(told, min(times, 3)), modulo, number % modulo),
                             rest_after(told, modulo, number % modulo, min(times, 3)))

    def test_one_whole_leads_rests_alike(self):
        told = step(0, 1, 2, 2, 1)
        self.assertIs(same_rests(told, again(H, 2), 2000), True)
        for modulo in range(2, 30):
            for row in full_rows(step(0, 0, 0, 0, 3, 0, 0, 0, 1)):
                for rest in range(modulo):
                    at = rest
                    for part in row:
                        at = rest_at(part, modulo, at)
                    self.assertEqual(at, rest_at(whole(row), modulo, rest))


class ComingRound(unittest.TestCase):
    def test_all_parts_agree_on_starts(self):
        for told in STEPS:
            coming = starts.starts(told)
            for number in {pair(Fraction(top, below)) for top in range(-8, 9) for below in (1, 2, 4)}:
                is_coming = starts.comes_round(told, number) is not None
                self.assertIs(number in coming, is_coming)
                page = Page(f"step F is {step_text(told)}\nnumber X is {number_text(number)}\nsay F rounds X")
                self.assertIs(page.all_true(), is_coming)
                if number[1] == 1 and all(bottom == 1 for _, bottom in told):
                    self.assertIs(choices.stays((told,), number) is not None, is_coming)

    def test_rings_are_those_of_starts(self):
        for told in STEPS:
            coming, rings = starts.starts(told), starts.rings(told)
            self.assertEqual(starts.common_starts(told, told), coming)
            self.assertEqual(tuple(sorted(map(len, rings))), starts.ring_lengths(told))
            for ring in rings:
                self.assertTrue(same(starts.comes_round(told, ring[0]), ((), ring)))
            for number in coming:
                tail, ring = starts.comes_round(told, number)
                place = ring.index(min(ring, key=lambda one: Fraction(*one)))
                self.assertIn(ring[place:] + ring[:place], rings)

    def test_commuting_steps_have_one_set_of_starts(self):
        for one in STEPS[:10]:
            for degree in (2, 3):
                for other in commuting_with(one, degree):
                    self.assertIs(commutes(one, other), True)
                    if refused(starts.starts, other) is None and len(other) > 2:
                        self.assertEqual(starts.starts(other), starts.starts(one))

    def test_roots_have_the_starts_of_their_doing(self):
        for told in (step(-1, 0, 1), step("-29/16", 0, 1), step(0, 0, 0, -1)):
            twice = again(told, 2)
            for root in roots_of(twice, 2):
                self.assertEqual(starts.starts(root), starts.starts(told))
            if refused(starts.starts, twice) is None:
                self.assertEqual(starts.starts(twice), starts.starts(told))

    def test_partners_lead_starts_to_starts(self):
        for told in STEPS[:9]:
            for straight in (step(1, 1), step("1/2", -1), step(0, 2)):
                other = composed(back(straight), told, straight)
                self.assertIn(straight, partners(told, other))
                if refused(starts.starts, other) is None:
                    self.assertEqual(starts.starts(other), moved(straight, starts.starts(told)))
            for straight in own(told):
                self.assertEqual(moved(straight, starts.starts(told)), starts.starts(told))

    def test_turning_round_leads_rings_to_rings(self):
        for told in STEPS:
            for degree in first_degrees(told)[1:-1]:
                first, other = first_part(told, degree), turned_round(told, degree)
                if refused(starts.rings, other) is None:
                    led = {frozenset(moved(first, ring)) for ring in starts.rings(told)}
                    self.assertEqual(led, {frozenset(ring) for ring in starts.rings(other)})

    def test_starts_that_meet_have_rests_that_meet(self):
        for told in (step(-1, 0, 1), step(0, 1, 1), power(3), step(-6, 0, 1)):
            for one in range(-6, 7):
                for other in range(-6, 7):
                    found = twostarts.comes_together(told, (one, 1), (other, 1))
                    if found is not None:
                        for modulo in (2, 9, 10):
                            self.assertEqual(rest_after(told, modulo, one % modulo, found[0]),
                                             rest_after(told, modulo, other % modulo, found[1]))

    def test_rings_modulo(self):
        for told in (step(-1, 0, 1), step(-2, 0, 1), step(0, 0, 0, -1), step(0, -3, 0, 1), step(1, 0, -1)):
            for ring in starts.rings(told):
                for modulo in (2, 5, 12, 2000):
                    for top, _ in ring:
                        tail, length = rest_ring(told, modulo, top % modulo)
                        self.assertEqual((tail, len(ring) % length), (0, 0))
                        self.assertIn(top % modulo, ring_rests(told, modulo))


class Choosing(unittest.TestCase):
    def test_words_lead_to_goals(self):
        steps = (step(-5, 0, 1), step(1, 2), step(-3, 2))
        for start in range(-4, 5):
            for goal in range(-9, 10):
                word = choices.reach(steps, (start, 1), (goal, 1))
                if word is not None and word != () and len(word) <= 4:
                    self.assertEqual(word_numbers(steps, word, (start, 1))[-1], (goal, 1))
                    self.assertGreater(choices.count_words(steps, (start, 1), (goal, 1), len(word)), 0)

    def test_one_step_by_choice(self):
        for told in (step(-1, 0, 1), step(-6, 0, 1), power(3), step(0, 1, 1)):
            self.assertEqual(choices.choice_bound((told,)), starts.bounds_of(told)[0])
            for start in range(-3, 4):
                for goal in range(-9, 28):
                    word = choices.reach((told,), (start, 1), (goal, 1))
                    if word is not None:
                        # the goal is met at this moment at the latest, so the starts come together there or earlier
                        self.assertLessEqual(twostarts.comes_together(told, (start, 1), (goal, 1)), (len(word), 0))
                        self.assertEqual(choices.count_words((told,), (start, 1), (goal, 1), len(word)), 1)


class Telling(unittest.TestCase):
    def test_results_as_texts(self):
        told = step(0, 0, 0, 0, 0, 0, 0, 0, 0, 0, 0, 0, 1)
        for row in full_rows(told):
            self.assertEqual(read_row(row_text(row)), row)
            page = Page(f"row R is {row_text(row)}\nrow S is {row_text(row[::-1])}\nstep F is {step_text(told)}\n"
                        "say R makes F\nsay R like S")
            self.assertIs(page.all_true(), True)
        for part in first_parts(told):
            self.assertEqual(read_step(step_text(part)), part)
            self.assertIs(is_first_part(told, part), True)
            page = Page(f"step F is {step_text(told)}\nstep G is {step_text(part)}\nsay F part G\nsay F commutes G")
            self.assertIs(page.all_true(), True)
            unparted = Page(f"step G is {step_text(part)}\nsay G unparted").all_true()
            self.assertIs(unparted, is_unparted(part))

    def test_parts_behind_and_ahead(self):
        rng = new_random(464)
        for _ in range(25):
            first, last = some_step(rng, 2, 4, 2), some_step(rng, 3, 4, 2)
            house = House()
            house.follow((("put", 0, "step", first), ("put", 1, "step", last), ("behind", 0, 1)))
            told = house.thing(0)[1]
            self.assertEqual(last_part(told, first), last)
            self.assertIn(first, firsts(told, last))
            house.undo()
            self.assertEqual((house.thing(0), house.thing(1)), (("step", first), ("step", last)))
            house.undo()
            house.undo()
            self.assertEqual(house.names(), ())
            joined = common_whole(first, told)
            self.assertIs(is_first_part(joined[2], first), True)

    def test_greatest_steps_of_a_house_are_steps(self):
        house = House()
        house.do(("put", 0, "step", ((0, 1), (GREAT, GREAT - 1))))
        house.do(("put", 1, "step", power(64)))
        self.assertEqual(refused(house.do, ("behind", 0, 1)), ("TooGreat", GREAT))
        house.do(("again", 1, 1))
        self.assertEqual(read_step(step_text(house.thing(1)[1])), power(64))
        self.assertEqual(read_step(step_text(house.thing(0)[1])), ((0, 1), (GREAT, GREAT - 1)))


if __name__ == "__main__":
    unittest.main()
