import random
import unittest

import samples
from nailhang.drawing import falls_without, nails_of
from nailhang.errors import TooMany
from nailhang.falling import falling_sets, holding_sets
from nailhang.families import meeting_sets

TEN = "abcdefghij"
ELEVEN = "abcdefghijk"
LETTERS = "abcdefghijklmnopqrstuvwxyz"


def plain_falls(cord):
    """Turn by turn would be too long for great turns, so pieces are put together one pair at a time."""
    left = [piece for piece in cord if piece[1] != 0]
    place = 0
    while place + 1 < len(left):
        if left[place][0] == left[place + 1][0]:
            total = left[place][1] + left[place + 1][1]
            left[place:place + 2] = [(left[place][0], total)] if total else []
            place = 0
        else:
            place += 1
    return not left


def plain_falling(cord):
    """All sets of the cord's nails are drawn out."""
    tried = samples.plain_sets(nail for nail, turns in cord)
    return samples.plain_least([one for one in tried if plain_falls([piece for piece in cord if piece[0] not in one])])


def plain_holding(cord):
    """With all sets of the cord's nails alone it is tried."""
    tried = samples.plain_sets(nail for nail, turns in cord)
    return samples.plain_least([one for one in tried if not plain_falls([piece for piece in cord if piece[0] in one])])


def cords():
    chance = random.Random(111)
    found = samples.some_cords()[:150] + samples.falling_cords()[:60]
    for _ in range(60):
        nails = LETTERS[:chance.randint(1, 6)]
        found.append(samples.random_cord(chance, chance.randint(0, 40), nails))
    for _ in range(60):
        nails = LETTERS[-chance.randint(2, 7):]
        one = samples.random_runs(chance, chance.randint(1, 5), nails)
        other = samples.random_runs(chance, chance.randint(1, 5), nails)
        found.append(one + other + samples.turned_back(one) + samples.turned_back(other))
    for _ in range(5):
        found.append(samples.random_cord(chance, 40, "abcdefgh"))
    return found


class FallingSetsTest(unittest.TestCase):
    def test_plain_cords(self):
        for cord, told in [
            ([("a", 1)], ["a"]),
            ([("a", 1), ("b", 1)], ["ab"]),
            ([("a", 1), ("b", 1), ("a", -1)], ["b"]),
            ([("a", 1), ("b", 1), ("a", -1), ("b", -1)], ["a", "b"]),
            ([("b", 2), ("a", 5), ("b", -2), ("a", -5), ("c", 1)], ["ac", "bc"]),
            ([("c", 1), ("b", 1), ("a", 1)], ["abc"]),
            ([("a", 1), ("b", 0)], ["a"]),
            ([("a", 1), ("b", 1), ("b", -1)], ["a"]),
            ([("z", 3), ("y", 1), ("z", -2), ("y", -1), ("z", -1)], ["y", "z"]),
        ]:
            with self.subTest(cord=cord):
                self.assertEqual(falling_sets(cord), told)

    def test_cords_that_fall(self):
        for cord in samples.falling_cords():
            self.assertEqual(falling_sets(cord), [""])
        self.assertEqual(falling_sets([]), [""])
        self.assertEqual(falling_sets([("a", 0), ("b", 0)]), [""])

    def test_against_a_plain_trying_of_all_sets(self):
        for cord in cords():
            told = falling_sets(cord)
            self.assertIs(type(told), list)
            self.assertEqual(told, plain_falling(cord), cord)

    def test_it_falls_without_each_and_with_more_out(self):
        for cord in cords()[::5]:
            told = falling_sets(cord)
            for chosen in samples.plain_sets(nails_of(cord)):
                has_one = any(set(one) <= set(chosen) for one in told)
                self.assertIs(falls_without(cord, chosen), has_one)

    def test_turns_of_thirty_figures(self):
        many = samples.THIRTY_FIGURES
        self.assertEqual(falling_sets([("a", many), ("b", 1), ("a", -many), ("b", -1)]), ["a", "b"])
        self.assertEqual(falling_sets([("a", many), ("b", 1), ("a", 1 - many), ("b", -1)]), ["a"])
        self.assertEqual(falling_sets([("a", many), ("b", -many), ("b", many), ("a", -many)]), [""])

    def test_cords_that_are_one_have_the_same(self):
        chance = random.Random(112)
        for cord in samples.short_cords(113, 80, 12, "abcd"):
            changed = samples.much_changed(chance, cord, 3)
            self.assertEqual(falling_sets(changed), falling_sets(cord))
            self.assertEqual(holding_sets(changed), holding_sets(cord))


class HoldingSetsTest(unittest.TestCase):
    def test_plain_cords(self):
        for cord, told in [
            ([("a", 1)], ["a"]),
            ([("a", 1), ("b", 1)], ["a", "b"]),
            ([("a", 1), ("b", 1), ("a", -1)], ["b"]),
            ([("a", 1), ("b", 1), ("a", -1), ("b", -1)], ["ab"]),
            ([("b", 2), ("a", 5), ("b", -2), ("a", -5), ("c", 1)], ["c", "ab"]),
            ([("a", 1), ("b", 0)], ["a"]),
        ]:
            with self.subTest(cord=cord):
                self.assertEqual(holding_sets(cord), told)

    def test_cords_that_fall_have_none(self):
        for cord in samples.falling_cords():
            self.assertEqual(holding_sets(cord), [])

    def test_against_a_plain_trying_of_all_sets(self):
        for cord in cords():
            told = holding_sets(cord)
            self.assertIs(type(told), list)
            self.assertEqual(told, plain_holding(cord), cord)

    def test_each_family_tells_the_other_one(self):
        for cord in cords():
            self.assertEqual(holding_sets(cord), meeting_sets(falling_sets(cord)))
            self.assertEqual(falling_sets(cord), meeting_sets(holding_sets(cord)))


class NumberOfNailsTest(unittest.TestCase):
    def test_ten_nails(self):
        for nails in (TEN, LETTERS[-10:]):
            cord = [(nail, 1) for nail in nails]
            self.assertEqual(falling_sets(cord), [nails])
            self.assertEqual(holding_sets(cord), list(nails))
            self.assertEqual(falling_sets(cord + samples.turned_back(cord)), [""])
            self.assertEqual(holding_sets(cord + samples.turned_back(cord)), [])
        idle = [(nail, 0) for nail in TEN[1:]] + [("a", 2)]
        self.assertEqual(falling_sets(idle), ["a"])
        self.assertEqual(holding_sets(idle), ["a"])

    def test_ten_nails_and_some_forty_pieces(self):
        chance = random.Random(114)
        cord = samples.random_cord(chance, 45, TEN)
        self.assertEqual(falling_sets(cord), plain_falling(cord))
        self.assertEqual(holding_sets(cord), plain_holding(cord))

    def test_eleven_nails_and_more(self):
        for nails in (ELEVEN, LETTERS, LETTERS[-11:]):
            hanging = [(nail, 1) for nail in nails]
            for cord in (
                hanging,
                hanging + samples.turned_back(hanging),
                [(nail, 0) for nail in nails],
                [("a", 1)] + [(nail, 0) for nail in nails],
                [("a", 1), ("b", 1), ("a", -1), ("b", -1)] + [(nail, 0) for nail in nails],
            ):
                with self.subTest(cord=cord):
                    self.assertIs(samples.refusal_of(falling_sets, cord), TooMany)
                    self.assertIs(samples.refusal_of(holding_sets, cord), TooMany)


class NothingChangesTest(unittest.TestCase):
    def test_nothing_changes(self):
        for cord in cords()[::3]:
            samples.check_nothing_changes(self, falling_sets, list(cord))
            samples.check_nothing_changes(self, holding_sets, list(cord))

    def test_what_is_refused_stays_as_it_was(self):
        cord = [(nail, 1) for nail in ELEVEN]
        kept = list(cord)
        self.assertIs(samples.refusal_of(falling_sets, cord), TooMany)
        self.assertIs(samples.refusal_of(holding_sets, cord), TooMany)
        self.assertEqual(cord, kept)


if __name__ == "__main__":
    unittest.main()
