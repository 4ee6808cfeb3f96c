import itertools
import random
import unittest

import samples
from nailhang.cords import is_fall
from nailhang.drawing import falls_without, nails_of, set_of, without
from nailhang.errors import HangError, NoNails

LETTERS = "abcdefghijklmnopqrstuvwxyz"


def assert_no_nails(test, ask, *handed):
    with test.subTest(handed=handed):
        with test.assertRaises(HangError) as taken:
            ask(*handed)
        test.assertIs(type(taken.exception), NoNails)


class SetOfTest(unittest.TestCase):
    def test_plain_sets(self):
        for nails, told in [("", ""), ("a", "a"), ("ba", "ab"), ("aa", "a"), ("zaza", "az"), ("cabbac", "abc"),
                            (LETTERS[::-1], LETTERS), ("z" * 5000, "z"), (LETTERS * 190, LETTERS)]:
            self.assertEqual(set_of(nails), told)

    def test_any_order_and_nails_twice(self):
        chance = random.Random(91)
        for _ in range(200):
            nails = samples.random_row(chance, chance.randint(0, 12), chance.choice(["ab", "abcdef", LETTERS]))
            told = set_of(nails)
            self.assertIs(type(told), str)
            self.assertEqual(list(told), sorted(set(nails)))
            self.assertEqual(set_of(told), told)
            self.assertEqual(set_of("".join(chance.sample(nails * 2, len(nails) * 2))), told)

    def test_things_of_every_kind(self):
        for thing in samples.NO_SETS:
            assert_no_nails(self, set_of, thing)

    def test_one_wrong_sign_is_enough_wherever_it_stands(self):
        for sign in [chr(number) for number in range(300) if chr(number) not in LETTERS]:
            for thing in (sign, sign + "ab", "a" + sign + "b", "ab" + sign):
                assert_no_nails(self, set_of, thing)
        assert_no_nails(self, set_of, "a" * 4999 + "A")


class NailsOfTest(unittest.TestCase):
    def test_plain_cords(self):
        for cord, told in [
            ([], ""), ([("b", 1), ("a", 2), ("b", -1)], "ab"), ([("c", 0)], "c"), ([("z", 0), ("a", 1)], "az"),
            ([("a", 1), ("a", -1)], "a"), ([(letter, 0) for letter in reversed(LETTERS)], LETTERS),
        ]:
            self.assertEqual(nails_of(cord), told)

    def test_all_pieces_count(self):
        for cord in samples.some_cords() + samples.falling_cords():
            told = nails_of(cord)
            self.assertIs(type(told), str)
            self.assertEqual(list(told), sorted({nail for nail, turns in cord}))


class WithoutTest(unittest.TestCase):
    def test_plain_cords(self):
        cord = [("a", 1), ("b", 0), ("a", 2), ("c", 1), ("b", 3), ("a", -3)]
        for nails, told in [
            ("", cord),
            ("z", cord),
            ("b", [("a", 1), ("a", 2), ("c", 1), ("a", -3)]),
            ("bc", [("a", 1), ("a", 2), ("a", -3)]),
            ("cbcb", [("a", 1), ("a", 2), ("a", -3)]),
            ("a", [("b", 0), ("c", 1), ("b", 3)]),
            ("cba", []),
            (LETTERS, []),
        ]:
            self.assertEqual(without(cord, nails), told)
        self.assertEqual(without([], "ab"), [])

    def test_nothing_is_put_together(self):
        chance = random.Random(92)
        for cord in samples.some_cords() + samples.falling_cords():
            nails = samples.random_row(chance, chance.randint(0, 3), "abcyz")
            told = without(cord, nails)
            self.assertIs(type(told), list)
            self.assertEqual(told, [piece for piece in cord if piece[0] not in nails])

    def test_no_nails(self):
        for thing in samples.NO_SETS:
            for cord in ([], [("a", 1)], [("a", 1), ("a", -1)]):
                assert_no_nails(self, without, cord, thing)
                assert_no_nails(self, falls_without, cord, thing)


class FallsWithoutTest(unittest.TestCase):
    def test_plain_cords(self):
        back = [("a", 1), ("b", 1), ("a", -1), ("b", -1)]
        for cord, nails, told in [
            ([], "", True), ([], "a", True), ([("a", 1)], "", False), ([("a", 1)], "a", True), ([("a", 1)], "b", False),
            (back, "", False), (back, "a", True), (back, "b", True), (back, "ba", True), (back, "c", False),
            ([("a", 1), ("b", 1)], "a", False), ([("a", 1), ("b", 1)], "bab", True), ([("a", 1), ("a", -1)], "", True),
        ]:
            self.assertIs(falls_without(cord, nails), told)

    def test_just_where_what_is_left_falls(self):
        chance = random.Random(93)
        for cord in samples.some_cords():
            nails = samples.random_row(chance, chance.randint(0, 3), "abcyz")
            self.assertIs(falls_without(cord, nails), is_fall(without(cord, nails)))

    def test_what_falls_with_some_out_falls_with_more_out(self):
        cords = samples.some_cords() + samples.falling_cords()[:60]
        a, b, c = [("a", 1)], [("b", 1)], [("c", 2)]
        inner = a + b + samples.turned_back(a) + samples.turned_back(b)
        cords.append(inner + c + samples.turned_back(inner) + samples.turned_back(c))
        fallen = 0
        for cord in cords:
            for length in range(4):
                for nails in itertools.combinations("abcz", length):
                    if falls_without(cord, "".join(nails)):
                        fallen += 1
                        for more in "abcxyz":
                            self.assertIs(falls_without(cord, "".join(nails) + more), True)
        self.assertGreater(fallen, 1000)

    def test_without_all_its_nails_every_cord_falls(self):
        for cord in samples.some_cords():
            self.assertIs(falls_without(cord, nails_of(cord)), True)

    def test_long_cords(self):
        cord = samples.put_in(samples.long_falling_cord(3998), 1999, [("z", 1)])
        self.assertIs(falls_without(cord, ""), False)
        self.assertIs(falls_without(cord, "z"), True)
        self.assertIs(falls_without(cord, "ab"), False)
        self.assertIs(falls_without(cord, "abc"), False)


class NothingChangesTest(unittest.TestCase):
    def test_nothing_changes(self):
        for cord in samples.some_cords()[:60] + [[], [("a", 1)]]:
            samples.check_nothing_changes(self, nails_of, list(cord))
            for nails in ("", "a", "ba", "xyx"):
                samples.check_nothing_changes(self, without, list(cord), nails)
                samples.check_nothing_changes(self, falls_without, list(cord), nails)

    def test_what_is_refused_stays_as_it_was(self):
        for thing in (["a", "b"], {"a": ["b"]}, [["a"]]):
            kept = repr(thing)
            cord = [("a", 1)]
            for ask in (set_of, lambda nails: without(cord, nails), lambda nails: falls_without(cord, nails)):
                assert_no_nails(self, ask, thing)
            self.assertEqual((repr(thing), cord), (kept, [("a", 1)]))


if __name__ == "__main__":
    unittest.main()
