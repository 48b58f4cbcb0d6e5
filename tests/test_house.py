"""Points [41] and [42]: a house, and the deeds that lead it."""

import unittest
from fractions import Fraction

from oracle import BAD_NUMBERS, BAD_STEPS, GREAT, X, new_random, pair, power, refused, same, some_step, step
from stepswithin.doing import again, whole
from stepswithin.house import House
from stepswithin.steps import value_at

H = step(0, 1, 1)
BAD_NAMES = [None, True, False, -1, 20, GREAT, "3", 3.0, (3,), [3], Fraction(3)]
NO_DEEDS = [
    None, 1, True, "put", (), ("put",), ["drop", 3], {"drop": 3}, (1, 2), ("lift", 3), ("drop",), ("drop", 3, 4), (b"drop", 3),
    ("drop", (3,)), ("put", 3), ("put", 3, "step"), ("put", 3, "row", X), ("put", 3, "step", X, 1), ("put", 3, None, X),
    ("put", 3, ["step"], X), ("put", 3, 1, X), ("behind", 3), ("behind", 3, 4, 5), ("again", 3), ("again", 3, 0),
    ("again", 3, 7), ("again", 3, -1), ("again", 3, True), ("again", 3, 1.0), ("again", 3, "1"), ("again", 3, 1, 1),
    ("again", 3, None), ("lead", 3, 4), ("lead", 3, 4, 0), ("lead", 3, 4, 61), ("lead", 3, 4, True), ("lead", 3, 4, 1, 1),
    ("lead", 3, 4, [1]), ("lead", 3, 4, Fraction(1)), ("Drop", 3), (None, 3), (("drop", 3),), ("undo", 3), ("follow", 3, 4),
] + [deed for name in BAD_NAMES for deed in (
    ("drop", name), ("put", name, "step", X), ("behind", name, 3), ("behind", 3, name), ("again", name, 2),
    ("lead", name, 3, 1), ("lead", 3, name, 1))]


def put(name, told):
    """Return the deed that puts a step or a number."""
    return ("put", name, "number" if isinstance(told[0], int) else "step", told)


def house(*deeds):
    """Return a house in which deeds were done."""
    found = House()
    for deed in deeds:
        found.do(deed)
    return found


def state(told):
    """Return all that a house tells of itself."""
    return (told.names(), tuple(told.thing(name) for name in told.names()), told.log(), len(told), list(told))


class Deeds(unittest.TestCase):
    def test_a_new_house(self):
        told = House()
        self.assertEqual(state(told), ((), (), (), 0, []))
        for name in (0, 19):
            self.assertEqual(refused(told.thing, name), ("BadParameter", name))

    def test_put_and_drop(self):
        told = House()
        self.assertIsNone(told.do(("put", 19, "step", H)))
        self.assertIsNone(told.do(("put", 0, "number", (-1, 2))))
        self.assertTrue(same(told.names(), (0, 19)))
        self.assertTrue(same(told.thing(19), ("step", H)))
        self.assertTrue(same(told.thing(0), ("number", (-1, 2))))
        self.assertIsNone(told.do(("drop", 19)))
        self.assertEqual(told.names(), (0,))
        self.assertEqual(refused(told.thing, 19), ("BadParameter", 19))
        told.do(("put", 19, "number", (5, 1)))
        self.assertEqual(told.thing(19), ("number", (5, 1)))
        self.assertEqual(len(told), 4)
        for name in range(1, 19):
            told.do(put(name, X))
        self.assertEqual(told.names(), tuple(range(20)))

    def test_names_of_any_kind(self):
        told = house(put(1, X), put(0, H))
        for name in BAD_NAMES + [2, 19, {}, ((1,),)]:
            found = refused(told.thing, name)
            self.assertEqual(found[0], "BadParameter")
            self.assertIs(found[1], name)

    def test_behind(self):
        square = step(3, 0, 1)
        told = house(put(1, H), put(2, square), ("behind", 1, 2))
        self.assertTrue(same(told.thing(1), ("step", whole((H, square)))))
        self.assertEqual(told.thing(2), ("step", square))
        told.do(("behind", 2, 2))
        self.assertEqual(told.thing(2), ("step", again(square, 2)))

    def test_again(self):
        for times in range(1, 7):
            told = house(put(1, step(1, 2)), ("again", 1, times))
            self.assertTrue(same(told.thing(1), ("step", again(step(1, 2), times))))
        self.assertEqual(house(put(1, H), ("again", 1, 6)).thing(1), ("step", again(H, 6)))
        self.assertEqual(house(put(1, H), ("again", 1, 2), ("again", 1, 3)).thing(1), ("step", again(H, 6)))

    def test_lead(self):
        told = house(put(1, H), put(2, (1, 2)), ("lead", 1, 2, 1))
        self.assertTrue(same(told.thing(2), ("number", (3, 4))))
        told.do(("lead", 1, 2, 2))
        self.assertEqual(told.thing(2), ("number", value_at(H, value_at(H, (3, 4)))))
        self.assertEqual(told.thing(1), ("step", H))
        for times in (1, 60):
            told = house(put(1, step(-3, 1)), put(2, (1, 2)), ("lead", 1, 2, times))
            self.assertEqual(told.thing(2), ("number", pair(Fraction(1, 2) - 3 * times)))

    def test_facts(self):
        rng = new_random(431)
        for _ in range(40):
            first, last, start = some_step(rng, 1), some_step(rng, 2), (rng.randint(-5, 5), 1)
            both = house(put(0, first), put(1, last), put(2, start), put(3, start), ("lead", 0, 2, 1), ("lead", 1, 2, 1),
                         ("behind", 0, 1), ("lead", 0, 3, 1))
            self.assertEqual(both.thing(2), both.thing(3))
            parts = house(put(0, first), put(2, start), put(3, start), ("lead", 0, 2, 2), ("lead", 0, 2, 3),
                          ("lead", 0, 3, 5))
            self.assertEqual(parts.thing(2), parts.thing(3))


class Refused(unittest.TestCase):
    def setUp(self):
        self.told = house(put(3, H), put(4, (2, 1)), put(5, step(1, 2)))
        self.ahead = state(self.told)

    def refuses(self, deed, *error):
        """Check that a deed is refused so and changes nothing."""
        self.assertTrue(same(refused(self.told.do, deed), error), deed)
        self.assertEqual(state(self.told), self.ahead)

    def test_no_deeds(self):
        for value in NO_DEEDS:
            self.refuses(value, "BadDeed", 0)

    def test_names_in_their_order(self):
        for deed, name in ((put(3, H), 3), (put(4, (1, 1)), 4), (("put", 3, "step", None), 3), (("drop", 6), 6),
                           (("behind", 6, 7), 6), (("behind", 4, 7), 4), (("behind", 3, 7), 7), (("behind", 3, 4), 4),
                           (("again", 6, 2), 6), (("again", 4, 2), 4), (("lead", 6, 7, 1), 6), (("lead", 4, 3, 1), 4),
                           (("lead", 3, 7, 1), 7), (("lead", 3, 5, 1), 5), (("lead", 3, 3, 1), 3), (("lead", 4, 4, 1), 4)):
            self.refuses(deed, "BadParameter", name)

    def test_wrong_values(self):
        for told in BAD_STEPS + [(1, 2), power(65)]:
            self.refuses(("put", 6, "step", told), "BadStep", told)
        for number in BAD_NUMBERS + [X]:
            self.refuses(("put", 6, "number", number), "BadNumber", number)

    def test_degrees_64_and_65(self):
        told = house(put(0, power(8)), put(1, power(8)), put(2, power(13)), put(3, power(5)), put(4, power(2)),
                     put(5, power(3)), put(6, power(64)), put(7, step(1, -1)))
        for deed in (("behind", 2, 3), ("behind", 6, 4), ("again", 5, 4), ("again", 0, 3), ("again", 2, 2)):
            ahead = state(told)
            self.assertEqual(refused(told.do, deed), ("TooGreat", 64))
            self.assertEqual(state(told), ahead)
        for deed, degree in ((("behind", 0, 1), 64), (("again", 4, 6), 64), (("again", 1, 2), 64), (("again", 5, 3), 27),
                             (("behind", 6, 7), 64), (("behind", 2, 2), None)):
            self.assertEqual(refused(told.do, deed), ("TooGreat", 64) if degree is None else None)
            if degree is not None:
                self.assertEqual(len(told.thing(deed[1])[1]) - 1, degree)

    def test_great_degree_is_refused_ahead_of_work(self):
        dense = tuple((GREAT - k, GREAT - k - 1) for k in range(65))
        self.told.do(put(6, dense))
        for deed in (("behind", 6, 6), ("again", 6, 6), ("behind", 3, 6)):
            self.assertEqual(refused(self.told.do, deed), ("TooGreat", 64))

    def test_great_numbers_of_steps(self):
        half = 10 ** 30
        told = house(put(0, step(0, half)), put(1, step(0, Fraction(1, half))), put(2, step(0, half + 1)), put(3, step(1, 1)),
                     put(4, step(GREAT, 1)), put(6, step(0, -half)),
                     put(7, step(0, GREAT)), put(8, step(0, Fraction(1, GREAT))))
        for deed in (("behind", 0, 2), ("again", 0, 3), ("again", 1, 3), ("behind", 4, 3), ("again", 4, 2), ("again", 7, 2),
                     ("behind", 2, 6), ("behind", 8, 1)):
            ahead = state(told)
            self.assertEqual(refused(told.do, deed), ("TooGreat", GREAT), deed)
            self.assertEqual(state(told), ahead)
        told.do(("again", 0, 2))
        told.do(("again", 1, 2))
        told.do(("again", 6, 2))
        self.assertEqual([told.thing(name)[1] for name in (0, 1, 6)],
                         [step(0, GREAT), step(0, Fraction(1, GREAT)), step(0, GREAT)])
        # what comes in between may be greater
        told = house(put(0, step(0, GREAT)), put(1, step(0, Fraction(1, GREAT))), put(2, step(GREAT, -1)), ("again", 2, 6))
        self.assertEqual(told.thing(2), ("step", X))
        self.assertEqual(refused(told.do, ("behind", 0, 0)), ("TooGreat", GREAT))
        told.do(("behind", 0, 1))
        self.assertEqual(told.thing(0), ("step", X))

    def test_great_numbers_on_the_way(self):
        told = house(put(0, step(1, 1)), put(1, step(-1, 1)), put(2, step(0, 2)), put(3, step(0, "1/2")), put(4, step(GREAT, -1)),
                     put(5, step(-2 * 10 ** 59, 0, "1/1000")), put(10, (GREAT - 1, 1)), put(11, (1 - GREAT, 1)),
                     put(12, (1, GREAT // 2)), put(13, (-1, 1)), put(14, (GREAT, 1)))
        for deed in (("lead", 0, 10, 2), ("lead", 1, 11, 2), ("lead", 2, 10, 1), ("lead", 3, 12, 2), ("lead", 4, 13, 1),
                     ("lead", 4, 13, 2), ("lead", 4, 13, 60), ("lead", 0, 14, 1), ("lead", 2, 14, 60)):
            ahead = state(told)
            self.assertEqual(refused(told.do, deed), ("TooGreat", GREAT), deed)
            self.assertEqual(state(told), ahead)
        for deed, number in ((("lead", 0, 10, 1), (GREAT, 1)), (("lead", 1, 11, 1), (-GREAT, 1)), (("lead", 3, 12, 1), (1, GREAT)),
                             (("lead", 1, 10, 60), (GREAT - 60, 1))):
            told.do(deed)
            self.assertEqual(told.thing(deed[2]), ("number", number))
        self.assertEqual(refused(House.do, house(put(0, power(64)), put(1, (GREAT, GREAT - 1))), ("lead", 0, 1, 60)),
                         ("TooGreat", GREAT))


class Following(unittest.TestCase):
    DEEDS = (put(1, H), put(2, (1, 1)), ("lead", 1, 2, 3), ("again", 1, 2), ("drop", 2))

    def test_all_in_turn(self):
        told = House()
        self.assertIsNone(told.follow(self.DEEDS))
        self.assertEqual(state(told), state(house(*self.DEEDS)))
        self.assertIsNone(told.follow(()))
        self.assertEqual(told.log(), self.DEEDS)

    def test_all_or_none(self):
        told = house(put(1, H))
        ahead = state(told)
        for deeds, error in (((put(2, X), put(1, X)), ("BadParameter", 1)), ((put(2, X), ("drop", 2), ("drop", 2)), ("BadParameter", 2)),
                             ((put(2, X), put(3, (1, 0))), ("BadNumber", (1, 0))), ((put(2, power(64)), ("behind", 1, 2)), ("TooGreat", 64)),
                             ((put(2, (GREAT, 1)), ("lead", 1, 2, 1)), ("TooGreat", GREAT)),
                             ((("drop", 5), ("drop", 6)), ("BadParameter", 5))):
            self.assertEqual(refused(told.follow, deeds), error)
            self.assertEqual(state(told), ahead)

    def test_what_are_no_deeds(self):
        told = house(put(1, H))
        ahead = state(told)
        for call in (told.follow, told.trial):
            for value in (None, 1, True, "deeds", [put(2, X)], {0: put(2, X)}, put):
                self.assertEqual(refused(call, value), ("BadDeed", 0))
            self.assertEqual(refused(call, put(2, X)), ("BadDeed", 0))
            self.assertEqual(refused(call, (None,) * 61), ("BadDeed", 60))
            self.assertEqual(refused(call, (("drop", 9),) * 61), ("BadDeed", 60))
            for bad in NO_DEEDS:
                self.assertEqual(refused(call, (bad,)), ("BadDeed", 0))
                self.assertEqual(refused(call, (put(1, X), ("drop", 7), bad, None)), ("BadDeed", 2))
            self.assertEqual(refused(call, (("drop", 9),) * 59 + (None,)), ("BadDeed", 59))
        self.assertEqual(state(told), ahead)

    def test_sixty_deeds(self):
        deeds = (put(2, X), ("drop", 2)) * 30
        told = House()
        self.assertEqual(told.trial(deeds), (60, ()))
        told.follow(deeds)
        self.assertEqual(told.log(), deeds)
        self.assertEqual(refused(told.follow, (*deeds, put(2, X))), ("BadDeed", 60))

    def test_trial(self):
        told = house(put(1, H))
        ahead = state(told)
        for deeds, found in (((), (0, (1,))), ((put(0, X), put(1, X), put(3, X)), (1, (0, 1))), ((("drop", 1),), (1, ())),
                             ((put(0, (5, 1)), ("lead", 1, 0, 2), put(7, X)), (3, (0, 1, 7))), ((put(1, H),), (0, (1,))),
                             ((put(2, power(64)), ("behind", 1, 2), put(3, X)), (1, (1, 2))),
                             ((put(2, (GREAT, 1)), ("lead", 1, 2, 1)), (1, (1, 2))), ((("put", 2, "step", None),), (0, (1,)))):
            self.assertTrue(same(told.trial(deeds), found))
            self.assertEqual(state(told), ahead)

    def test_trial_is_what_follow_does(self):
        rng = new_random(432)
        for _ in range(60):
            told = House()
            deeds = tuple(rng.choice((
                put(rng.randrange(3), H), put(rng.randrange(3), (2, 1)), ("drop", rng.randrange(3)),
                ("behind", rng.randrange(3), rng.randrange(3)), ("lead", rng.randrange(3), rng.randrange(3), 2),
                ("again", rng.randrange(3), 2))) for _ in range(6))
            many, names = told.trial(deeds)
            told.follow(deeds[:many])
            self.assertEqual((told.names(), told.log()), (names, deeds[:many]))
            if many < 6:
                self.assertIsNotNone(refused(told.do, deeds[many]))


class Back(unittest.TestCase):
    def test_undo(self):
        deeds = (put(1, H), put(2, (1, 1)), ("lead", 1, 2, 3), ("again", 1, 2), ("drop", 2), ("behind", 1, 1))
        told, states = House(), []
        for deed in deeds:
            states.append(state(told))
            told.do(deed)
        for ahead in reversed(states):
            self.assertIsNone(told.undo())
            self.assertEqual(state(told), ahead)
        self.assertEqual(refused(told.undo), ("NothingBack",))
        self.assertEqual(state(told), state(House()))

    def goes_back_deed_by_deed(self, told, deeds):
        """Check that a house in which these deeds were done goes back through the houses of their first ones."""
        for many in range(len(deeds), 0, -1):
            self.assertEqual(state(told), state(house(*deeds[:many])))
            self.assertIsNone(told.undo())
        self.assertEqual(state(told), state(House()))
        self.assertEqual(refused(told.undo), ("NothingBack",))
        self.assertEqual(state(told), state(House()))

    def test_followed_deeds_are_taken_back_one_by_one(self):
        deeds = (put(0, (1, 1)), put(1, (2, 1)))
        told = House()
        told.follow(deeds)
        self.assertIsNone(told.undo())
        self.assertEqual(state(told), ((0,), (("number", (1, 1)),), deeds[:1], 1, [deeds[0]]))
        self.goes_back_deed_by_deed(told, deeds[:1])

    def test_every_kind_of_followed_deed_is_taken_back(self):
        deeds = (put(1, H), put(2, (1, 1)), put(3, step(1, 2)), ("lead", 1, 2, 2), ("behind", 1, 3), ("again", 3, 2),
                 ("behind", 1, 1), ("drop", 1), put(1, (7, 2)), ("drop", 3))
        told = House()
        told.follow(deeds)
        self.goes_back_deed_by_deed(told, deeds)

    def test_sixty_followed_deeds_are_taken_back(self):
        deeds = (put(1, step(1, 1)), put(2, (0, 1)), *(("lead", 1, 2, times) for times in range(1, 59)))
        told = House()
        told.follow(deeds)
        self.goes_back_deed_by_deed(told, deeds)

    def test_do_and_follow_mixed(self):
        deeds = (put(1, H), put(2, (1, 1)), ("lead", 1, 2, 2), ("again", 1, 2), ("drop", 2), put(2, X), ("behind", 1, 2))
        for cut in range(len(deeds) + 1):
            for end in range(cut, len(deeds) + 1):
                told = house(*deeds[:cut])
                told.follow(deeds[cut:end])
                for deed in deeds[end:]:
                    told.do(deed)
                self.goes_back_deed_by_deed(told, deeds)
                told = House()
                for part in (deeds[:cut], deeds[cut:end], deeds[end:]):
                    told.follow(part)
                self.goes_back_deed_by_deed(told, deeds)

    def test_deeds_behind_a_follow_that_was_taken_back_in_part(self):
        told = house(put(1, H))
        told.follow((put(2, (1, 1)), ("lead", 1, 2, 1), ("drop", 1)))
        told.undo()
        told.undo()
        told.follow((("again", 1, 2), ("lead", 1, 2, 1)))
        told.undo()
        told.do(put(3, X))
        self.goes_back_deed_by_deed(told, (put(1, H), put(2, (1, 1)), ("again", 1, 2), put(3, X)))

    def test_an_empty_follow_is_no_deed(self):
        told = house(put(1, H), put(2, X))
        told.follow(())
        told.undo()
        told.follow(())
        self.goes_back_deed_by_deed(told, (put(1, H),))

    def test_a_refused_follow_leaves_what_can_be_taken_back(self):
        told = House()
        told.follow((put(1, H), put(2, (1, 1))))
        self.assertEqual(refused(told.follow, (("lead", 1, 2, 1), ("drop", 1), ("drop", 3))), ("BadParameter", 3))
        self.goes_back_deed_by_deed(told, (put(1, H), put(2, (1, 1))))

    def test_copies_go_back_by_themselves(self):
        deeds = (put(1, H), put(2, (1, 1)), ("lead", 1, 2, 1), ("again", 1, 2))
        for undone in range(len(deeds) + 1):
            told = house(deeds[0])
            told.follow(deeds[1:])
            for _ in range(undone):
                told.undo()
            left = deeds[:len(deeds) - undone]
            other = told.copy()
            self.goes_back_deed_by_deed(other, left)
            self.assertEqual(state(told), state(house(*left)))
            other = told.copy()
            self.goes_back_deed_by_deed(told, left)
            self.assertEqual(state(other), state(house(*left)))

    def test_what_is_refused_is_not_taken_back(self):
        told = house(put(1, H), put(2, X))
        self.assertIsNotNone(refused(told.do, put(1, X)))
        self.assertIsNotNone(refused(told.follow, (put(3, X), put(1, X))))
        told.trial((put(3, X),))
        told.undo()
        self.assertEqual(told.log(), (put(1, H),))

    def test_new_deeds_behind_an_undo(self):
        told = house(put(1, H), put(2, X))
        told.undo()
        told.do(put(3, X))
        self.assertEqual(told.log(), (put(1, H), put(3, X)))
        self.assertEqual(told.names(), (1, 3))

    def test_an_empty_house_has_nothing_to_take_back(self):
        told = House()
        self.assertEqual(refused(told.undo), ("NothingBack",))
        told.follow(())
        self.assertEqual(refused(told.undo), ("NothingBack",))


class Whole(unittest.TestCase):
    def test_log_and_iteration(self):
        deeds = (put(1, H), ("again", 1, 2), ("drop", 1))
        told = house(*deeds)
        self.assertTrue(same(told.log(), deeds))
        self.assertEqual((len(told), list(told), [deed for deed in told]), (3, [*deeds], [*deeds]))

    def test_copies(self):
        told = house(put(1, H), put(2, (1, 1)))
        other = told.copy()
        self.assertIsInstance(other, House)
        self.assertEqual(state(other), state(told))
        ahead = state(told)
        other.do(("drop", 1))
        other.undo()
        other.undo()
        self.assertEqual(other.names(), (1,))
        self.assertEqual(state(told), ahead)
        told.do(("lead", 1, 2, 1))
        self.assertEqual(other.names(), (1,))
        other.do(put(2, (7, 1)))
        self.assertEqual(told.thing(2), ("number", (2, 1)))

    def test_equal_houses(self):
        told = house(put(1, H), put(2, (1, 1)))
        self.assertTrue(told == house(put(2, (1, 1)), put(3, X), put(1, H), ("drop", 3)))
        self.assertTrue(told == told.copy())
        self.assertTrue(House() == House())
        self.assertTrue(house(put(1, H), ("again", 1, 2)) == house(put(1, again(H, 2))))
        for other in (House(), house(put(1, H)), house(put(1, H), put(2, (2, 1))), house(put(1, H), put(3, (1, 1))),
                      None, 1, told.log(), {1: H}):
            self.assertFalse(told == other)
            self.assertTrue(told != other)

    def test_keywords(self):
        told = House()
        told.do(deed=put(1, H))
        told.follow(deeds=(put(2, X),))
        self.assertEqual(told.trial(deeds=(("drop", 2),)), (1, (1,)))
        self.assertEqual(told.thing(name=2), ("step", X))


if __name__ == "__main__":
    unittest.main()
