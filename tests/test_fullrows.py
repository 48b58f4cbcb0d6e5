"""Points [13] and [14]: full rows and exchanges."""

import unittest
from math import gcd

import oracle
from oracle import (
    BAD_STEPS, GREAT, X, back, composed, dickson_pair, new_random, power, power_pair, refused, same, some_plain,
    some_step, step,
)
from stepswithin.doing import whole
from stepswithin.fullrows import (
    exchange_way, exchanged, exchanges, full_rows, how_many_rows, is_unparted, plain_row, turned_pairs,
)
from stepswithin.steps import is_plain

H = step(0, 1, 1)
TWICE = step(0, 1, 2, 2, 1)
LONE = step(0, 0, 0, 1, 1)
P2, P3, P5 = power(2), power(3), power(5)
BAD_ROWS = [(None, ()), ((), ()), ([H], ()), ((H,) * 9, ()), (5, ()), ((H, None), (1,)), ((None, H), (0,)), (H, (0,))]
BAD_PLACES = [None, True, False, -1, -2, 2, 3, "0", 0.0, (0,), [0], GREAT]


def degrees_of(row):
    """Return the degrees of the steps of a row."""
    return tuple(len(told) - 1 for told in row)


def turned(rng, row):
    """Return a row of the same degrees and the same whole, with straight steps put in and taken back."""
    found = []
    ahead = X
    for told in row[:-1]:
        straight = some_step(rng, 1, 3, 2)
        found.append(composed(ahead, told, straight))
        ahead = back(straight)
    return (*found, composed(ahead, row[-1]))


def count_turned(one, other):
    """Return how many pairs of steps stand the other way round, the k-th of a degree being the k-th in both rows."""
    names, places = [[(told, row[:at].count(told)) for at, told in enumerate(row)]
                     for row in (degrees_of(one), degrees_of(other))]
    pairs = [(names[i], names[j]) for j in range(len(names)) for i in range(j)]
    return sum(places.index(low) > places.index(high) for low, high in pairs)


def walk(one, other):
    """Return the least of the shortest tuples of places, by looking at all rows that exchanges lead to."""
    ways = {plain_row(one): ()}
    new = [plain_row(one)]
    while plain_row(other) not in ways:
        longer = []
        for row in new:
            for place in exchanges(tuple(row)):
                found = exchanged(row, place)
                if found not in ways:
                    ways[found] = (*ways[row], place)
                    longer.append(found)
        new = longer
    return ways[plain_row(other)]


class Unparted(unittest.TestCase):
    def test_degrees(self):
        for told in (X, step(3, -2), TWICE, power(4), power(64), composed(H, power(7))):
            self.assertIs(is_unparted(told), False)
        for told in (H, P2, P3, power(61), LONE, step(1, 1, 1, 1, 1, 1, 2), step(*range(1, 66))):
            self.assertIs(is_unparted(told), True)

    def test_against_long_division(self):
        rng = new_random(51)
        for _ in range(40):
            for told in (some_step(rng, rng.randint(1, 9), 2, 1), composed(some_step(rng, 2), some_step(rng, 3))):
                self.assertIs(is_unparted(told), len(oracle.degrees(told)) == 2)

    def test_wrong_steps(self):
        for told in BAD_STEPS:
            self.assertEqual(refused(is_unparted, told), ("BadStep", told))


class FullRows(unittest.TestCase):
    def test_examples(self):
        self.assertEqual(full_rows(power(12)), ((P2, P2, P3), (P2, P3, P2), (P3, P2, P2)))
        self.assertTrue(same(full_rows(TWICE), ((H, H),)))
        self.assertEqual(how_many_rows(power(12)), 3)
        self.assertEqual(how_many_rows(TWICE), 1)

    def test_unparted_steps_are_their_own_rows(self):
        for told in (H, step(1, 2, 3), LONE, step(7, 0, 0, 5, 5), power(61), step(*range(1, 66))):
            self.assertEqual(full_rows(told), ((told,),))
            self.assertTrue(same(how_many_rows(told), 1))

    def test_at_most_twelve_rows(self):
        self.assertEqual(how_many_rows(power(60)), 12)
        self.assertEqual(len(set(full_rows(power(60)))), 12)
        self.assertEqual(max(how_many_rows(power(size)) for size in range(2, 65)), 12)
        self.assertEqual(full_rows(power(64)), ((P2,) * 6,))

    def test_against_all_rows(self):
        rng = new_random(52)
        steps = [composed(step(1, 1), power(12), step(0, 2)), power(30), oracle.dickson(18, 2), oracle.dickson(20, -1)]
        for _ in range(12):
            steps.append(composed(*[some_step(rng, rng.choice((2, 2, 3, 4)), 3, 2) for _ in range(3)]))
            steps.append(composed(*power_pair(rng, 2, 1, 1), some_step(rng, 2)))
            steps.append(composed(some_step(rng, 2), *power_pair(rng, 3, 2, 0)))
        for told in steps:
            rows = full_rows(told)
            self.assertTrue(same(rows, tuple(sorted(oracle.rows(told), key=degrees_of))))
            self.assertTrue(same(how_many_rows(told), len(rows)))
            self.assertEqual(len({tuple(sorted(degrees_of(row))) for row in rows}), 1)
            for row in rows:
                self.assertEqual(composed(*row), told)
                self.assertTrue(all(is_plain(part) for part in row[:-1]))
                self.assertTrue(all(is_unparted(part) for part in row))

    def test_straight_and_wrong_steps(self):
        for call in (full_rows, how_many_rows):
            for told in (X, step(2, 3)):
                self.assertEqual(refused(call, told), ("NoRow",))
            for told in BAD_STEPS:
                self.assertEqual(refused(call, told), ("BadStep", told))


class PlainRow(unittest.TestCase):
    def test_ordinary_rows(self):
        self.assertEqual(plain_row((step(1, 0, 2), P2)), (P2, step(1, 4, 4)))
        self.assertEqual(plain_row((step(1, 2),)), (step(1, 2),))
        self.assertEqual(plain_row((step(1, 2), P2)), (X, step(1, 4, 4)))
        self.assertEqual(plain_row((H, H, step(3, 0, -1))), (H, H, step(3, 0, -1)))

    def test_wholes_up_to_each_place(self):
        rng = new_random(53)
        for _ in range(50):
            row = tuple(some_step(rng, rng.randint(1, 3)) for _ in range(rng.randint(1, 4)))
            found = plain_row(row)
            self.assertEqual(degrees_of(found), degrees_of(row))
            self.assertTrue(all(is_plain(part) for part in found[:-1]))
            self.assertTrue(same(composed(*found), composed(*row)))
            for place in range(1, len(row)):
                ahead = composed(*row[:place])
                behind = composed(*found[:place])
                self.assertEqual(len(oracle.last_behind(ahead, behind)), 2)

    def test_straight_steps_between_change_nothing(self):
        rng = new_random(54)
        for _ in range(30):
            row = tuple(some_plain(rng, 2) for _ in range(3))
            self.assertEqual(plain_row(turned(rng, row)), row)

    def test_greatest_degrees(self):
        self.assertEqual(plain_row((power(64), power(4))), (power(64), power(4)))
        self.assertEqual(plain_row((P2,) * 8), (P2,) * 8)
        self.assertEqual(plain_row((power(64), X, power(4))), (power(64), X, power(4)))
        for row in ((power(64), power(5)), (P2,) * 7 + (P3,), (LONE, power(64), H)):
            self.assertEqual(refused(plain_row, row), ("TooGreat", 256))

    def test_wrong_rows(self):
        for row, place in BAD_ROWS:
            self.assertEqual(refused(plain_row, row), ("BadRow", place))


class Exchanges(unittest.TestCase):
    def test_examples(self):
        self.assertTrue(same(exchanges((P2, P2, P3)), (1,)))
        self.assertEqual(exchanged((P2, P2, P3), 1), (P2, P3, P2))
        self.assertEqual(exchanged((P2, P3, P2), 0), (P3, P2, P2))
        self.assertEqual(exchange_way((P2, P2, P3), (P3, P2, P2)), (1, 0))
        self.assertEqual(exchanges((P2, P3, P2)), (0, 1))

    def test_rows_without_exchanges(self):
        for row in ((H,), (H, H), (P2, P2), (step(1, 1, 1), P3), (LONE, H), (P2, step(0, 1, 1, 1)), (LONE, P3)):
            self.assertTrue(same(exchanges(row), ()))
            self.assertEqual(refused(exchanged, row, 0), ("BadIndex", 0))

    def test_coprime_degrees_with_and_without(self):
        for row, places in (((P2, step(0, 1, 2, 1)), (0,)), ((P2, step(0, 1, 1, 1)), ()), ((P3, P2), (0,)),
                            ((step(0, 1, 0, 1), P2), (0,)), ((step(0, 1, 1, 1), P2), ()),
                            ((oracle.dickson(3, 2), oracle.dickson(5, 8)), (0,)),
                            ((oracle.dickson(3, 2), oracle.dickson(5, 4)), ())):
            self.assertEqual(exchanges(row), places)

    def test_by_the_full_rows_of_two_neighbours(self):
        rng = new_random(55)
        rows = [(P2, P3, P2, P3), (P2, P5, P3), (power(7), P2, H), (P2, step(0, 1, 2, 1), H)]
        for _ in range(12):
            rows.append(power_pair(rng, 2, 1, rng.randint(0, 2)))
            rows.append(power_pair(rng, 3, rng.choice((1, 2)), 0)[::-1])
            rows.append((*power_pair(rng, 3, 1, 0), some_step(rng, 2)))
            rows.append((some_step(rng, 2), some_step(rng, 3), some_step(rng, 2)))
            rows.append(dickson_pair(rng, 2, 3, rng.randint(-2, 2)))
        for row in rows:
            if not all(is_unparted(part) for part in row):
                continue
            places = tuple(k for k in range(len(row) - 1) if len(oracle.rows(composed(*row[k:k + 2]))) > 1)
            self.assertEqual(exchanges(row), places)
            plain = plain_row(row)
            self.assertEqual(exchanges(plain), places)
            for place in range(len(row) - 1):
                if place not in places:
                    self.assertEqual(refused(exchanged, row, place), ("BadIndex", place))
                    continue
                found = exchanged(row, place)
                wanted = list(degrees_of(row))
                wanted[place:place + 2] = wanted[place:place + 2][::-1]
                self.assertEqual(degrees_of(found), tuple(wanted))
                self.assertEqual(plain_row(found), found)
                self.assertTrue(same(composed(*found), composed(*row)))
                self.assertEqual(exchanged(found, place), plain)

    def test_greatest_wholes(self):
        self.assertEqual(exchanges((P3, power(5), P2, P2, P2)), (0, 1))
        self.assertEqual(exchanges((P2,) * 8), ())
        lone = step(0, *[1] * 16)
        self.assertEqual(exchanges((lone, lone)), ())
        with_parts = power_pair(new_random(56), 3, 1, 20)
        self.assertEqual(degrees_of(with_parts), (3, 61))
        self.assertEqual(exchanges(with_parts), (0,))
        self.assertEqual(composed(*exchanged(with_parts, 0)), composed(*with_parts))
        self.assertEqual(exchanges((some_step(new_random(57), 3), some_step(new_random(58), 64))), ())
        self.assertEqual(exchanges((some_step(new_random(59), 64), some_step(new_random(60), 3))), ())

    def test_wrong_rows_in_their_order(self):
        for row, place in BAD_ROWS:
            self.assertEqual(refused(exchanges, row), ("BadRow", place))
            self.assertEqual(refused(exchanged, row, None), ("BadRow", place))
        for call, rest in ((exchanges, ()), (exchanged, (None,))):
            self.assertEqual(refused(call, (H, X), *rest), ("BadRow", (1,)))
            self.assertEqual(refused(call, (power(4), X), *rest), ("BadRow", (0,)))
            self.assertEqual(refused(call, (H, TWICE, None), *rest), ("BadRow", (2,)))
            self.assertEqual(refused(call, (LONE, power(61), power(64)), *rest), ("BadRow", (2,)))
            self.assertEqual(refused(call, (LONE, power(61), P2), *rest), ("TooGreat", 256))
            self.assertEqual(refused(call, (P2,) * 7 + (P3,), *rest), ("TooGreat", 256))

    def test_wrong_places(self):
        for place in BAD_PLACES:
            found = refused(exchanged, (P2, P3, P2), place)
            self.assertEqual(found[0], "BadIndex")
            self.assertIs(found[1], place)
        self.assertEqual(refused(exchanged, (P2, P2, P3), 0), ("BadIndex", 0))
        self.assertEqual(refused(exchanged, (P2,), 0), ("BadIndex", 0))


class Ways(unittest.TestCase):
    def test_no_way_is_needed(self):
        rng = new_random(61)
        for row in ((H,), (H, H), (P2, P3, P2), (LONE, H)):
            for other in (row, plain_row(row), turned(rng, row)):
                self.assertTrue(same(exchange_way(row, other), ()))
                self.assertTrue(same(turned_pairs(row, other), 0))

    def test_between_all_rows_of_a_step(self):
        rng = new_random(62)
        steps = [power(12), composed(step(1, 2), power(24), step(3, 1)), oracle.dickson(30, -1)]
        steps.append(composed(*power_pair(rng, 2, 1, 1), H))
        steps.append(composed(P2, *power_pair(rng, 3, 1, 0), P5))
        for told in steps:
            rows = full_rows(told)
            for one in rows:
                for other in rows:
                    way = exchange_way(turned(rng, one), turned(rng, other))
                    self.assertTrue(same(way, walk(one, other)))
                    self.assertTrue(same(turned_pairs(one, other), count_turned(one, other)))
                    self.assertEqual(turned_pairs(one, other), len(way))
                    row = one
                    for place in way:
                        row = exchanged(row, place)
                    self.assertEqual(row, other)

    def test_least_of_the_shortest(self):
        one, other = (P2, P3, P2, P5, P3), (P3, P2, P2, P3, P5)
        self.assertEqual(exchange_way(one, other), (0, 3))
        self.assertEqual(exchange_way((P2, P3, P5), (P5, P3, P2)), (0, 1, 0))
        self.assertEqual(turned_pairs((P2, P3, P5), (P5, P3, P2)), 3)
        self.assertEqual(exchange_way((P2, P2, P2, P3, P5), (P5, P3, P2, P2, P2)), (2, 1, 0, 3, 2, 1, 0))

    def test_unlike_wholes(self):
        for one, other in (((H,), (P2,)), ((P2, P3), (P2,)), ((P2, P3), (P3, step(0, 0, 2))), ((H, P3), (P3, H)),
                           ((LONE,), (H, H)), ((P2, P2, P3), (P2, P3))):
            for call in (exchange_way, turned_pairs):
                self.assertEqual(refused(call, one, other), ("Unlike", ()))

    def test_unlike_exactly_if_the_wholes_are(self):
        rng = new_random(63)
        rows = [power_pair(rng, 2, 1, 1) for _ in range(3)] + [(P2, P3), (P3, P2), (P2, step(0, 1, 2, 1)), (H, P3)]
        rows += [exchanged(row, 0) for row in rows[:4]] + [turned(rng, row) for row in rows[:6]]
        rows += [(P2, P3, P2), (P2, P2, P3), (P2, H, P3), (P3, P2, P2), (P3, P2, H), (P2, P3, H), (P3, P3), (LONE, P3)]
        for one in rows:
            for other in rows:
                wanted = None if composed(*one) == composed(*other) else ("Unlike", ())
                self.assertEqual(refused(exchange_way, one, other), wanted)
                self.assertEqual(refused(turned_pairs, one, other), wanted)

    def test_great_numbers(self):
        rng = new_random(64)
        row = tuple(step(*[rng.randint(-GREAT, GREAT) for _ in range(2)], GREAT) for _ in range(8))
        self.assertEqual(exchange_way(row, row), ())
        self.assertEqual(refused(exchange_way, row, (*row[:7], H)), ("Unlike", ()))

    def test_wrong_rows_in_their_order(self):
        great = (LONE, power(61), P2)
        for call in (exchange_way, turned_pairs):
            for row, place in BAD_ROWS:
                self.assertEqual(refused(call, row, None), ("BadRow", place))
                self.assertEqual(refused(call, (P2, P3), row), ("BadRow", place))
            self.assertEqual(refused(call, (H, TWICE), None), ("BadRow", (1,)))
            self.assertEqual(refused(call, great, None), ("TooGreat", 256))
            self.assertEqual(refused(call, great, great), ("TooGreat", 256))
            self.assertEqual(refused(call, (H,), (X,)), ("BadRow", (0,)))
            self.assertEqual(refused(call, (H,), great), ("TooGreat", 256))
            self.assertEqual(refused(call, (H,), (H, power(4))), ("BadRow", (1,)))

    def test_exchanged_degrees_are_coprime(self):
        for row in full_rows(power(60)):
            for place in exchanges(row):
                self.assertEqual(gcd(*degrees_of(row[place:place + 2])), 1)
            self.assertEqual(whole(row), power(60))


if __name__ == "__main__":
    unittest.main()
