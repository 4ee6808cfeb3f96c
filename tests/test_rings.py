import itertools
import random
import unittest

import samples
from nailhang.cords import are_one, short_form
from nailhang.rings import leader, loosened, ring_of

MANY = samples.THIRTY_FIGURES


def begun_elsewhere(runs):
    return [runs[place:] + runs[:place] for place in range(len(runs))]


def led_cords():
    """Cords with many ends that undo one another: wholly, in part or not at all."""
    chance = random.Random(71)
    cords = []
    for _ in range(300):
        cord = samples.random_runs(chance, chance.randint(0, 6), chance.choice(["ab", "abc", "a" + "z"]))
        lead = samples.random_runs(chance, chance.randint(0, 5), "abz")
        cords.append(samples.much_changed(chance, samples.led(lead, cord), chance.randint(0, 2)))
    return cords


def all_short_cords(most):
    pieces = [(nail, turns) for nail in "ab" for turns in (-1, 1, 2)]
    return [list(chosen) for length in range(most + 1) for chosen in itertools.product(pieces, repeat=length)]


def is_loose(inner):
    return len(inner) < 2 or inner[0][0] != inner[-1][0]


class LoosenedTest(unittest.TestCase):
    def assert_loosened(self, cord):
        told = loosened(cord)
        self.assertIs(type(told), tuple)
        outer, inner = told
        for part in (outer, inner):
            self.assertIs(type(part), list)
            self.assertEqual(part, short_form(part), cord)
        self.assertTrue(are_one(cord, samples.led(outer, inner)), cord)
        self.assertTrue(is_loose(inner), cord)

    def test_cords_that_fall(self):
        for cord in samples.falling_cords():
            self.assert_loosened(cord)
            self.assertEqual(loosened(cord)[1], [])

    def test_cords_of_one_run(self):
        for turns in (1, -1, 2, MANY, -MANY):
            for cord in ([("a", turns)], [("a", turns - 1), ("b", 0), ("a", 1)]):
                self.assert_loosened(cord)
                self.assertEqual(loosened(cord)[1], [("a", turns)])

    def test_cords_that_are_loose(self):
        for cord in ([("a", 1), ("b", 1)], [("a", 1), ("b", 1), ("a", -1), ("b", -1)], [("a", 2), ("b", 1), ("c", 1)]):
            self.assert_loosened(cord)
            self.assertEqual(len(loosened(cord)[1]), len(cord))

    def test_ends_that_undo_one_another_wholly(self):
        cord = [("a", 1), ("b", MANY), ("c", 5), ("b", -MANY), ("a", -1)]
        self.assert_loosened(cord)
        self.assertEqual(loosened(cord)[1], [("c", 5)])

    def test_ends_that_undo_one_another_in_part_or_not_at_all(self):
        for first, last in [(3, -1), (1, -3), (-3, 1), (-1, 3), (1, 1), (-2, -2), (MANY, 1 - MANY), (MANY, MANY),
                            (-MANY, MANY - 1)]:
            for cord in ([("a", first), ("b", 1), ("a", last)],
                         [("c", 1), ("a", first), ("b", 1), ("c", 2), ("b", 2), ("a", last), ("c", -1)]):
                self.assert_loosened(cord)
                self.assertIn(("a", first + last), loosened(cord)[1])
                self.assertEqual(len(loosened(cord)[1]), 2 if len(cord) == 3 else 4)

    def test_all_short_cords(self):
        for cord in all_short_cords(4):
            self.assert_loosened(cord)

    def test_other_cords(self):
        for cord in samples.some_cords() + led_cords():
            self.assert_loosened(cord)

    def test_long_cords(self):
        lead = samples.random_runs(random.Random(72), 1990, "abc")
        self.assert_loosened(samples.led(lead, [("z", 2), ("y", 1)]))
        self.assert_loosened(samples.led(lead, [("z", MANY)]))
        self.assert_loosened(samples.long_falling_cord(4000))


class RingTest(unittest.TestCase):
    def test_plain_cords(self):
        a, b = ("a", 1), ("b", 1)
        for cord, ring in [
            ([], []),
            ([("a", 0)], []),
            ([("b", 3)], [("b", 3)]),
            ([b, a], [a, b]),
            ([a, b, ("a", -1), ("b", -1)], [("a", -1), ("b", -1), a, b]),
            ([("a", 3), b, ("a", -1)], [("a", 2), b]),
            ([("a", 2), b, a, b], [a, b, ("a", 2), b]),
            ([a, ("b", 2), a, b], [a, b, a, ("b", 2)]),
            ([b, a, b, a, b, a], [a, b, a, b, a, b]),
            ([("z", 1), ("c", MANY), ("z", -1)], [("c", MANY)]),
            ([("a", 10), b, ("a", 9), b], [("a", 9), b, ("a", 10), b]),
            ([("a", -1), b, ("a", -MANY), b], [("a", -MANY), b, ("a", -1), b]),
        ]:
            with self.subTest(cord=cord):
                self.assertEqual(ring_of(cord), ring)

    def test_cords_that_fall(self):
        for cord in samples.falling_cords():
            self.assertEqual(ring_of(cord), [])

    def test_it_is_the_least_of_all_beginnings(self):
        for cord in samples.some_cords() + led_cords() + all_short_cords(4):
            inner = loosened(cord)[1]
            told = ring_of(cord)
            self.assertIs(type(told), list)
            self.assertEqual(told, min(begun_elsewhere(inner), default=[]), cord)

    def test_every_list_of_few_runs(self):
        # All loose rings of up to eight runs, so that every way of being alike for a while comes up.
        for length in (2, 4, 6, 8):
            for turns in itertools.product((1, 2), repeat=length):
                cord = [("ab"[k % 2], turns[k]) for k in range(length)]
                self.assertEqual(ring_of(cord), min(begun_elsewhere(cord)))

    def test_it_is_the_same_for_led_cords_and_for_runs_begun_elsewhere(self):
        chance = random.Random(73)
        for cord in samples.some_cords()[:200] + led_cords():
            ring = ring_of(cord)
            lead = samples.random_cord(chance, chance.randint(0, 5), "abz")
            self.assertEqual(ring_of(samples.led(lead, cord)), ring)
            self.assertEqual(ring_of(samples.much_changed(chance, cord, 3)), ring)
            for begun in begun_elsewhere(short_form(cord)) + begun_elsewhere(loosened(cord)[1]):
                self.assertEqual(ring_of(begun), ring)

    def test_rings_with_several_like_beginnings(self):
        chance = random.Random(74)
        for number in (2, 3, 5):
            part = samples.random_runs(chance, 4, "ab")
            for begun in begun_elsewhere(part * number):
                self.assertEqual(ring_of(begun), min(begun_elsewhere(part)) * number)

    def test_long_cords(self):
        self.assertEqual(ring_of([("b", 1), ("a", 1)] * 2000), [("a", 1), ("b", 1)] * 2000)
        cord = [("a", 1), ("b", 1)] * 1999 + [("a", 1), ("b", 2)]
        for begun in (cord, cord[1:] + cord[:1], cord[2001:] + cord[:2001]):
            self.assertEqual(ring_of(begun), cord)


class LeaderTest(unittest.TestCase):
    def assert_leader(self, one, other):
        told = leader(one, other)
        self.assertIs(type(told), list, (one, other))
        self.assertEqual(told, short_form(told), (one, other))
        self.assertTrue(are_one(samples.led(told, one), other), (one, other))

    def test_plain_cords(self):
        for one, other in [
            ([("a", 1), ("b", 1)], [("b", 1), ("a", 1)]),
            ([("a", 3), ("b", 1), ("a", -1)], [("b", 1), ("a", 2)]),
            ([("c", 1), ("a", MANY), ("c", -1)], [("a", MANY)]),
            ([("a", MANY), ("b", 1), ("a", -MANY)], [("c", 1), ("b", 1), ("c", -1)]),
        ]:
            self.assert_leader(one, other)
            self.assert_leader(other, one)

    def test_a_cord_and_itself(self):
        chance = random.Random(75)
        for cord in samples.some_cords():
            self.assert_leader(cord, cord)
            self.assert_leader(cord, samples.much_changed(chance, cord, 3))

    def test_cords_that_fall(self):
        cords = samples.falling_cords()
        for one, other in zip(cords, reversed(cords)):
            self.assert_leader(one, other)
        for cord in cords[:50]:
            self.assertIsNone(leader(cord, [("a", 1)]))
            self.assertIsNone(leader([("a", 1), ("b", 1)], cord))

    def test_led_cords_and_runs_begun_elsewhere(self):
        chance = random.Random(76)
        for cord in led_cords() + samples.some_cords()[:100]:
            lead = samples.random_cord(chance, chance.randint(0, 6), "abz")
            self.assert_leader(cord, samples.led(lead, cord))
            self.assert_leader(samples.led(lead, cord), cord)
            for begun in begun_elsewhere(short_form(cord)):
                self.assert_leader(samples.led(lead, cord), begun)

    def test_rings_with_several_like_beginnings(self):
        part = [("a", 1), ("b", 2), ("a", -1), ("b", 1)]
        for begun in begun_elsewhere(part * 3):
            self.assert_leader(part * 3, begun)
            self.assert_leader(begun, samples.led([("c", 1), ("a", 1)], part * 3))

    def test_just_where_the_rings_are_equal(self):
        cords = all_short_cords(3)
        rings = [ring_of(cord) for cord in cords]
        for one, ring in zip(cords, rings):
            for other, second in zip(cords, rings):
                if ring == second:
                    self.assert_leader(one, other)
                else:
                    self.assertIsNone(leader(one, other))

    def test_none_for_rings_that_are_nearly_equal(self):
        one = [("a", 1), ("b", 1), ("a", 2), ("b", 2)]
        for other in (
            [("a", 1), ("b", 2), ("a", 2), ("b", 1)], [("a", 1), ("b", 1)], one * 2, samples.turned_back(one),
            [("a", -1), ("b", 1), ("a", 2), ("b", 2)], [("a", 1), ("c", 1), ("a", 2), ("b", 2)], [],
        ):
            self.assertIsNone(leader(one, other))
            self.assertIsNone(leader(other, one))

    def test_long_cords_have_leaders_that_are_not_too_long(self):
        chance = random.Random(77)
        runs = samples.random_runs(chance, 3999, "abc") + [("z", 1)]
        for place in (1, 1500, 2000, 2500, 3999):
            begun = runs[place:] + runs[:place]
            self.assert_leader(runs, begun)
            self.assert_leader(begun, runs)
            self.assertLessEqual(len(leader(runs, begun)), 4000)
        one = samples.led(samples.random_runs(chance, 1990, "abc"), [("y", 1), ("z", 1)])
        other = samples.led(samples.random_runs(chance, 1990, "abc"), [("z", 1), ("y", 1)])
        self.assert_leader(one, other)
        self.assertLessEqual(len(leader(one, other)), 4000)


class NothingChangesTest(unittest.TestCase):
    def test_nothing_changes(self):
        chance = random.Random(78)
        for cord in samples.some_cords()[:60] + led_cords()[:60] + [[], [("a", 1)], [("a", 1), ("b", 1)]]:
            samples.check_nothing_changes(self, loosened, list(cord))
            samples.check_nothing_changes(self, ring_of, list(cord))
            samples.check_nothing_changes(self, leader, list(cord), list(cord))
            lead = samples.random_cord(chance, 3, "ab")
            samples.check_nothing_changes(self, leader, list(cord), samples.led(lead, cord))


if __name__ == "__main__":
    unittest.main()
