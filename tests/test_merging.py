import collections
import itertools
import math
import random
import unittest

import samples
from nailhang.counting import times_in
from nailhang.merging import merged_rows


def all_ways(row, second):
    """Every way by itself: one new row for each, as often as it comes about."""
    if not row or not second:
        return [row + second]
    told = [row[0] + rest for rest in all_ways(row[1:], second)]
    told += [second[0] + rest for rest in all_ways(row, second[1:])]
    if row[0] == second[0]:
        told += [row[0] + rest for rest in all_ways(row[1:], second[1:])]
    return told


def rows_up_to(nails, most):
    return ["".join(letters) for length in range(most + 1) for letters in itertools.product(nails, repeat=length)]


class MergedTest(unittest.TestCase):
    def assert_merged(self, row, second):
        told = merged_rows(row, second)
        self.assertIs(type(told), list)
        self.assertTrue(all(type(part) is tuple for part in told))
        self.assertEqual(told, sorted(collections.Counter(all_ways(row, second)).items()), (row, second))

    def test_plain_rows(self):
        for row, second, told in [
            ("", "", [("", 1)]),
            ("a", "", [("a", 1)]),
            ("", "ba", [("ba", 1)]),
            ("a", "a", [("a", 1), ("aa", 2)]),
            ("a", "b", [("ab", 1), ("ba", 1)]),
            ("b", "a", [("ab", 1), ("ba", 1)]),
            ("ab", "a", [("aab", 2), ("ab", 1), ("aba", 1)]),
            ("ab", "ba", [("abab", 1), ("abba", 2), ("aba", 1), ("baab", 2), ("bab", 1), ("baba", 1)]),
            ("aa", "aa", [("aa", 1), ("aaa", 6), ("aaaa", 6)]),
        ]:
            with self.subTest(row=row, second=second):
                self.assertEqual(merged_rows(row, second), sorted(told))

    def test_rows_without_nails(self):
        for row in ("", "a", "aa", "abcab", "zzzzz"):
            self.assertEqual(merged_rows(row, ""), [(row, 1)])
            self.assertEqual(merged_rows("", row), [(row, 1)])

    def test_all_short_rows_of_two_nails(self):
        rows = rows_up_to("ab", 3)
        for row in rows:
            for second in rows:
                self.assert_merged(row, second)

    def test_rows_of_up_to_five_nails(self):
        chance = random.Random(61)
        for _ in range(80):
            nails = chance.choice(["a", "ab", "abc", "vwxyz"])
            self.assert_merged(
                samples.random_row(chance, chance.randint(0, 5), nails),
                samples.random_row(chance, chance.randint(0, 5), nails),
            )

    def test_how_many_ways_there_are_in_all(self):
        self.assertEqual(sum(ways for row, ways in merged_rows("aaaaa", "aaaaa")), 1683)
        self.assertEqual(sum(ways for row, ways in merged_rows("abcde", "vwxyz")), math.comb(10, 5))
        self.assertEqual(len(merged_rows("abcde", "vwxyz")), math.comb(10, 5))
        self.assertEqual(merged_rows("aaaaa", "aaaaa")[-1], ("a" * 10, math.comb(10, 5)))

    def test_it_is_no_matter_which_row_is_the_first(self):
        chance = random.Random(62)
        for _ in range(60):
            row = samples.random_row(chance, chance.randint(0, 5))
            second = samples.random_row(chance, chance.randint(0, 5))
            self.assertEqual(merged_rows(row, second), merged_rows(second, row))


class ProductTest(unittest.TestCase):
    def assert_product(self, row, second, cord):
        total = sum(ways * times_in(merged, cord) for merged, ways in merged_rows(row, second))
        self.assertEqual(times_in(row, cord) * times_in(second, cord), total, (row, second, cord))

    def test_the_product_is_the_sum(self):
        chance = random.Random(63)
        for cord in samples.some_cords():
            nails = chance.choice(["a", "ab", "abyz"])
            row = samples.random_row(chance, chance.randint(0, 3), nails)
            second = samples.random_row(chance, chance.randint(0, 3), nails)
            self.assert_product(row, second, cord)

    def test_rows_of_five_nails(self):
        chance = random.Random(64)
        for cord in samples.short_cords(65, 12, 9, "ab"):
            self.assert_product(samples.random_row(chance, 5, "ab"), samples.random_row(chance, 5, "ab"), cord)


class NothingChangesTest(unittest.TestCase):
    def test_nothing_changes(self):
        for row in ("", "a", "abab", "aaaaa"):
            for second in ("", "b", "aba"):
                samples.check_nothing_changes(self, merged_rows, row, second)


if __name__ == "__main__":
    unittest.main()
