import math
import random
import unittest

import samples
from nailhang.cords import are_one, contrary, is_fall, joined, short_form
from nailhang.counting import times_in
from nailhang.witness import row_of, told_apart, why_hangs

MANY = samples.THIRTY_FIGURES


class RowOfTest(unittest.TestCase):
    def test_plain_cords(self):
        for cord, row in [
            ([], ""),
            ([("a", 0)], ""),
            ([("a", 3)], "a"),
            ([("a", 1), ("b", -2), ("a", MANY)], "aba"),
            ([("a", 1), ("b", 1), ("b", -1), ("a", 2), ("c", 1)], "ac"),
            ([("z", 1), ("a", 0), ("y", 1)], "zy"),
        ]:
            self.assertEqual(row_of(cord), row)

    def test_cords_that_fall(self):
        for cord in samples.falling_cords():
            self.assertEqual(row_of(cord), "")

    def test_the_nails_of_the_runs(self):
        for cord in samples.some_cords():
            told = row_of(cord)
            self.assertIs(type(told), str)
            self.assertEqual(list(told), [nail for nail, turns in short_form(cord)])


class WhyHangsTest(unittest.TestCase):
    def test_none_for_cords_that_fall(self):
        for cord in samples.falling_cords():
            self.assertIsNone(why_hangs(cord))

    def test_plain_cords(self):
        for cord, told in [
            ([("a", 1)], ("a", 1)),
            ([("a", -3)], ("a", -3)),
            ([("a", 3), ("b", -1)], ("ab", -3)),
            ([("a", 1), ("b", 1), ("a", -1), ("b", -1)], ("abab", 1)),
            ([("a", 1), ("a", 1), ("b", 0), ("c", -2), ("b", 5)], ("acb", -20)),
            ([("a", MANY), ("b", -MANY)], ("ab", -MANY * MANY)),
        ]:
            self.assertEqual(why_hangs(cord), told)

    def test_the_row_and_the_product_as_times_in_tells_it(self):
        hanging = [cord for cord in samples.some_cords() if not is_fall(cord)]
        self.assertGreater(len(hanging), 200)
        for cord in hanging:
            told = why_hangs(cord)
            self.assertIs(type(told), tuple)
            self.assertEqual(told, (row_of(cord), math.prod(turns for nail, turns in short_form(cord))))
            self.assertNotEqual(told[1], 0)
            self.assertEqual(times_in(told[0], cord), told[1])

    def test_every_cord_that_is_one_with_it_tells_the_same(self):
        chance = random.Random(51)
        for cord in samples.some_cords()[:150]:
            changed = samples.much_changed(chance, cord, 5)
            self.assertEqual(why_hangs(changed), why_hangs(cord))
            self.assertEqual(row_of(changed), row_of(cord))

    def test_long_cords(self):
        self.assertEqual(why_hangs([("a", 1), ("b", -1)] * 2000), ("ab" * 2000, 1))
        self.assertIsNone(why_hangs(samples.long_falling_cord(4000)))


def apart_plainly(one, other):
    """The words of point 11, one end after the other."""
    third = joined(contrary(one), other)
    row = row_of(third)
    for length in range(1, len(row) + 1):
        end = row[len(row) - length:]
        if times_in(end, third) != 0:
            return (end, times_in(end, one), times_in(end, other))
    return None


class ToldApartTest(unittest.TestCase):
    def assert_apart(self, one, other):
        with self.subTest(one=one, other=other):
            told = told_apart(one, other)
            self.assertEqual(told, apart_plainly(one, other))
            if are_one(one, other):
                self.assertIsNone(told)
            else:
                self.assertIs(type(told), tuple)
                self.assertNotEqual(told[1], told[2])

    def test_plain_cords(self):
        a, b, c = ("a", 1), ("b", 1), ("c", 1)
        back = [a, b, ("a", -1), ("b", -1)]
        for one, other, told in [
            ([], [a], ("a", 0, 1)),
            ([a], [], ("a", 1, 0)),
            ([a], [("a", 4)], ("a", 1, 4)),
            ([a], [b], ("b", 0, 1)),
            ([a, b], [b, a], ("ba", 0, 1)),
            ([b, a], [a, b], ("ab", 0, 1)),
            ([], back, ("ab", 0, 1)),
            (back, [], ("ba", -1, 0)),
            ([a, b, c], [("a", 2), b, c], ("abc", 1, 2)),
            ([a, b, c], [a, ("b", 3), c], ("bc", 1, 3)),
            ([a, b, c], [a, b, ("c", -1)], ("c", 1, -1)),
            ([a, ("b", MANY)], [a, ("b", -MANY)], ("b", MANY, -MANY)),
        ]:
            with self.subTest(one=one, other=other):
                self.assertEqual(told_apart(one, other), told)

    def test_none_for_cords_that_are_one(self):
        chance = random.Random(52)
        for cord in samples.some_cords():
            self.assertIsNone(told_apart(cord, cord))
            self.assertIsNone(told_apart(cord, samples.much_changed(chance, cord, 4)))
        for cord in samples.falling_cords():
            self.assertIsNone(told_apart(cord, []))
            self.assertIsNone(told_apart([], cord))

    def test_any_two_cords(self):
        cords = samples.some_cords()
        for one, other in zip(cords, reversed(cords)):
            self.assert_apart(one, other)
        cords = samples.short_cords(53, 40, 5, "ab")
        for one in cords:
            for other in cords:
                self.assert_apart(one, other)

    def test_cords_that_differ_in_one_piece(self):
        chance = random.Random(54)
        for _ in range(40):
            cord = samples.random_runs(chance, 9, chance.choice(["ab", "abc", "abcde"]))
            for place in (0, 4, 8):
                nail, turns = cord[place]
                for piece in ((nail, turns + 1), (nail, -turns), (nail, 0), ("z", turns), (nail, MANY)):
                    changed = cord[:place] + [piece] + cord[place + 1:]
                    self.assert_apart(cord, changed)
                    self.assert_apart(changed, cord)
            for place in (0, 5, 9):
                more = samples.put_in(cord, place, [("z", -2)])
                self.assert_apart(cord, more)
                self.assert_apart(more, cord)

    def test_cords_that_only_long_rows_tell_apart(self):
        one = [("a", 1)]
        for nail in "bcdef":
            other = [(nail, 1)]
            one = one + other + samples.turned_back(one) + samples.turned_back(other)
            self.assert_apart(one, [])
            self.assert_apart([], one)
        self.assertGreaterEqual(len(told_apart(one, [])[0]), 6)

    def test_long_cords_that_differ_in_the_first_piece_alone(self):
        rest = [("bc"[k % 2], 1 - 2 * (k % 3 % 2)) for k in range(999)]
        row, first, second = told_apart([("a", 1)] + rest, [("a", 3)] + rest)
        self.assertEqual(row, "a" + row_of(rest))
        self.assertEqual((first, second), (why_hangs(rest)[1], 3 * why_hangs(rest)[1]))


class NothingChangesTest(unittest.TestCase):
    def test_nothing_changes(self):
        cords = samples.some_cords()[:80]
        for one, other in zip(cords, reversed(cords)):
            samples.check_nothing_changes(self, row_of, list(one))
            samples.check_nothing_changes(self, why_hangs, list(one))
            samples.check_nothing_changes(self, told_apart, list(one), list(other))


if __name__ == "__main__":
    unittest.main()
