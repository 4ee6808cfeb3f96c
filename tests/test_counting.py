import itertools
import math
import random
import unittest

import samples
from nailhang.cords import contrary, joined, short_form
from nailhang.counting import rows_in, times_in

MANY = samples.THIRTY_FIGURES
TURNS = [0, 1, 2, 3, 5, 39, 40, 41, 1000, -1, -2, -3, -40, -1000, MANY, -MANY, 10 ** 15, -(10 ** 15)]


def all_rows(nails, length):
    return ["".join(letters) for letters in itertools.product(nails, repeat=length)]


def rows_with_unlike_neighbours(nails, length):
    return [row for row in all_rows(nails, length) if all(row[k] != row[k + 1] for k in range(length - 1))]


def times_by_picking(row, cord):
    """The sum that point 9 tells, over all ways to pick pieces from left to right."""
    total = 0
    for picked in itertools.combinations(cord, len(row)):
        if "".join(nail for nail, turns in picked) == row:
            total += math.prod(turns for nail, turns in picked)
    return total


class NoPiecesTest(unittest.TestCase):
    def test_the_row_without_nails_stands_once(self):
        self.assertEqual(times_in("", []), 1)

    def test_every_other_row_stands_no_time(self):
        for row in ("a", "z", "ab", "aa", "abc", "a" * 40, "ab" * 20):
            self.assertEqual(times_in(row, []), 0)


class OnePieceTest(unittest.TestCase):
    def test_rows_of_that_nail(self):
        for turns in TURNS:
            for count in range(42):
                with self.subTest(turns=turns, count=count):
                    told = times_in("k" * count, [("k", turns)])
                    self.assertIs(type(told), int)
                    self.assertEqual(told, samples.plain_single(turns, count))

    def test_as_the_document_counts(self):
        for count in range(10):
            self.assertEqual(times_in("a" * count, [("a", -1)]), (-1) ** count)
        for turns in TURNS:
            self.assertEqual(times_in("", [("a", turns)]), 1)
            self.assertEqual(times_in("a", [("a", turns)]), turns)
        self.assertEqual([times_in("a" * count, [("a", 3)]) for count in range(5)], [1, 3, 3, 1, 0])
        self.assertEqual([times_in("a" * count, [("a", -2)]) for count in range(5)], [1, -2, 3, -4, 5])
        self.assertEqual([times_in("a" * count, [("a", 0)]) for count in range(4)], [1, 0, 0, 0])

    def test_every_other_row_stands_no_time(self):
        for turns in TURNS:
            for row in ("b", "z", "ab", "ba", "aab", "aba", "baa", "bb", "a" * 39 + "b", "b" + "a" * 39):
                self.assertEqual(times_in(row, [("a", turns)]), 0)


class JoinedTest(unittest.TestCase):
    def test_small_cords_and_all_short_rows(self):
        for cord in samples.short_cords(31, 60, 6):
            for length in range(5):
                for row in all_rows("abc", length):
                    self.assertEqual(times_in(row, cord), samples.plain_times(row, cord), (row, cord))

    def test_longer_rows_with_like_and_unlike_neighbours(self):
        chance = random.Random(32)
        for cord in samples.short_cords(33, 120, 7, "ab"):
            row = samples.random_row(chance, chance.randint(0, 9), "ab")
            self.assertEqual(times_in(row, cord), samples.plain_times(row, cord), (row, cord))
        self.assertEqual(times_in("aab", [("a", 2), ("b", 1), ("a", 1), ("b", 1)]), 4)

    def test_turns_of_thirty_figures(self):
        chance = random.Random(34)
        for _ in range(80):
            cord = [(chance.choice("ab"), chance.randint(-MANY, MANY)) for _ in range(chance.randint(1, 5))]
            row = samples.random_row(chance, chance.randint(1, 7), "ab")
            self.assertEqual(times_in(row, cord), samples.plain_times(row, cord))

    def test_the_cutting_in_two(self):
        chance = random.Random(35)
        cords = samples.some_cords()
        for one, other in zip(cords, reversed(cords)):
            row = samples.random_row(chance, chance.randint(0, 8), chance.choice(["a", "ab", "abyz"]))
            cuts = [times_in(row[:cut], one) * times_in(row[cut:], other) for cut in range(len(row) + 1)]
            self.assertEqual(times_in(row, joined(one, other)), sum(cuts))

    def test_a_cord_and_its_contrary(self):
        for cord in samples.some_cords()[:120]:
            for row in ("a", "aa", "ab", "ba", "aba"):
                cuts = [times_in(row[:cut], cord) * times_in(row[cut:], contrary(cord)) for cut in range(len(row) + 1)]
                self.assertEqual(sum(cuts), 0)


class LongTest(unittest.TestCase):
    def test_sixty_pieces_and_rows_of_one_nail(self):
        chance = random.Random(36)
        for count in (0, 1, 20, 39, 40):
            turns = [chance.randint(-9, 9) for _ in range(60)]
            cord = [("a", number) for number in turns]
            self.assertEqual(times_in("a" * count, cord), samples.plain_single(sum(turns), count))
            parted = [piece for number in turns[:30] for piece in (("a", number), ("b", 1))]
            self.assertEqual(times_in("a" * count, parted), samples.plain_single(sum(turns[:30]), count))

    def test_sixty_pieces_and_rows_of_forty_nails(self):
        chance = random.Random(37)
        for nails in ("a", "ab", "abc", "abcdefgh"):
            for most in (3, MANY):
                cord = [(chance.choice(nails), chance.randint(-most, most)) for _ in range(60)]
                row = samples.random_row(chance, 40, nails)
                cuts = [times_in(row[:cut], cord[:25]) * times_in(row[cut:], cord[25:]) for cut in range(41)]
                self.assertEqual(times_in(row, cord), sum(cuts))

    def test_forty_nails_side_by_side_between_others(self):
        cord = [("b", 2), ("a", 25), ("c", 1), ("a", 20), ("b", 1), ("c", -1)] + [("d", 1), ("a", 0)] * 27
        self.assertEqual(times_in("b" + "a" * 38 + "b", cord), 2 * math.comb(45, 38))
        self.assertEqual(times_in("a" * 20 + "c" + "a" * 19, cord), math.comb(25, 20) * math.comb(20, 19))
        self.assertEqual(times_in("a" * 40, cord), math.comb(45, 40))

    def test_the_longest_cords(self):
        self.assertEqual(times_in("ab" * 2, [("a", 1), ("b", 1)] * 2000), math.comb(2002, 4))
        self.assertEqual(times_in("a" * 40, [("a", 1)] * 4000), math.comb(4000, 40))
        self.assertEqual(times_in("abc" * 13, samples.long_falling_cord(4000)), 0)


class OneCordTest(unittest.TestCase):
    def test_cords_that_are_one_have_all_numbers_alike(self):
        chance = random.Random(38)
        for cord in samples.some_cords()[:150]:
            changed = samples.much_changed(chance, cord, chance.randint(1, 6))
            for _ in range(6):
                row = samples.random_row(chance, chance.randint(0, 7), "abyz")
                number = times_in(row, cord)
                self.assertEqual(times_in(row, short_form(cord)), number)
                self.assertEqual(times_in(row, changed), number)

    def test_a_piece_parted(self):
        for turns in (0, 1, -1, 5, -5, MANY):
            for part in (0, 1, -1, 7, -MANY):
                parted = [("b", 2), ("a", part), ("a", turns - part), ("b", -1)]
                for row in ("a", "aa", "aaaa", "ab", "baab", "bab"):
                    self.assertEqual(times_in(row, parted), times_in(row, [("b", 2), ("a", turns), ("b", -1)]))

    def test_cords_that_fall_have_the_numbers_of_no_pieces(self):
        for cord in samples.falling_cords()[:120]:
            self.assertEqual(times_in("", cord), 1)
            for row in ("a", "b", "aa", "ab", "aba", "zba"):
                self.assertEqual(times_in(row, cord), 0)

    def test_unlike_neighbours_against_all_ways_to_pick(self):
        for cord in samples.short_cords(39, 80, 9):
            for length in range(5):
                for row in rows_with_unlike_neighbours("abc", length):
                    self.assertEqual(times_in(row, cord), times_by_picking(row, cord))

    def test_unlike_neighbours_in_cords_with_many_turns(self):
        chance = random.Random(40)
        for cord in samples.some_cords():
            row = chance.choice(rows_with_unlike_neighbours("abz", chance.randint(0, 4)))
            self.assertEqual(times_in(row, cord), times_by_picking(row, cord))


class RowsInTest(unittest.TestCase):
    def assert_rows(self, cord, length, nails):
        told = rows_in(cord, length)
        self.assertIs(type(told), list)
        self.assertTrue(all(type(part) is tuple for part in told))
        wanted = [(row, samples.plain_times(row, cord)) for row in all_rows(nails, length)]
        self.assertEqual(told, [part for part in wanted if part[1] != 0])
        self.assertEqual(told, sorted(told))

    def test_plain_cords(self):
        self.assertEqual(rows_in([("a", 1), ("b", 1), ("a", -1), ("b", -1)], 1), [])
        self.assertEqual(rows_in([("a", 1), ("b", 1), ("a", -1), ("b", -1)], 2), [("ab", 1), ("ba", -1)])
        self.assertEqual(rows_in([("b", 2), ("a", 3)], 1), [("a", 3), ("b", 2)])
        self.assertEqual(rows_in([("b", 2), ("a", 3)], 2), [("aa", 3), ("ba", 6), ("bb", 1)])
        self.assertEqual(rows_in([("a", 2)], 3), [])
        self.assertEqual(rows_in([("a", -1)], 5), [("aaaaa", -1)])

    def test_the_length_nought(self):
        for cord in samples.some_cords():
            self.assertEqual(rows_in(cord, 0), [("", 1)])

    def test_no_pieces_and_cords_that_fall(self):
        for cord in [[]] + samples.falling_cords():
            for length in range(1, 6):
                self.assertEqual(rows_in(cord, length), [])

    def test_one_nail(self):
        for turns in TURNS:
            for length in range(1, 6):
                number = samples.plain_single(turns, length)
                self.assertEqual(rows_in([("q", turns)], length), [("q" * length, number)] if number else [])

    def test_several_nails(self):
        for cord in samples.short_cords(41, 25, 6):
            for length in range(6):
                self.assert_rows(cord, length, "abc")
        for cord in samples.short_cords(42, 40, 7, "xy"):
            for length in range(6):
                self.assert_rows(cord, length, "xy")

    def test_turns_of_thirty_figures(self):
        for cord in ([("a", MANY), ("b", -MANY), ("a", -MANY)], [("b", MANY), ("a", 1), ("b", 1 - MANY)]):
            for length in range(6):
                self.assert_rows(cord, length, "ab")

    def test_against_times_in_for_longer_cords(self):
        chance = random.Random(43)
        for nails in ("ab", "abcde"):
            cord = samples.random_cord(chance, 60, nails)
            told = dict(rows_in(cord, 4))
            for row in all_rows(nails, 4):
                self.assertEqual(told.get(row, 0), times_in(row, cord))
                self.assertNotEqual(told.get(row), 0)

    def test_long_cords(self):
        told = dict(rows_in([("a", 1), ("b", 1)] * 2000, 5))
        self.assertEqual(len(told), 32)
        self.assertEqual(told["ababa"], math.comb(2002, 5))
        self.assertEqual(told["aaaaa"], math.comb(2000, 5))
        self.assertEqual(rows_in([(letter, 1) for letter in "abcdefghijklmno"], 5),
                         [("".join(letters), 1) for letters in itertools.combinations("abcdefghijklmno", 5)])


class NothingChangesTest(unittest.TestCase):
    def test_nothing_changes(self):
        for cord in samples.some_cords()[:60]:
            samples.check_nothing_changes(self, times_in, "aba", list(cord))
            for length in (0, 1, 3):
                samples.check_nothing_changes(self, rows_in, list(cord), length)
        samples.check_nothing_changes(self, rows_in, [], 0)
        samples.check_nothing_changes(self, rows_in, [], 2)


if __name__ == "__main__":
    unittest.main()
