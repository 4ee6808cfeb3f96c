import itertools
import random
import unittest

import samples
from nailhang.errors import NoNails, TooMany
from nailhang.families import least_sets, meeting_sets

LETTERS = "abcdefghijklmnopqrstuvwxyz"


def plain_meeting(family):
    """All sets of the family's nails are tried."""
    tried = samples.plain_sets("".join(family))
    return samples.plain_least([one for one in tried if all(set(one) & set(other) for other in family)])


def families():
    chance = random.Random(101)
    found = [[], [""], ["", ""], ["a"], ["aa", "a"], ["", "a"], ["ab", "ba"], ["ab", "bc", "ca"], ["abc", "b", "cab"]]
    for _ in range(300):
        nails = chance.choice(["ab", "abc", "abcde", "mnopqr", "az"])
        sizes = chance.choice([(1, 2), (1, 4), (2, 3), (0, 5)])
        found.append([samples.random_row(chance, chance.randint(*sizes), nails) for _ in range(chance.randint(1, 8))])
    return found


class LeastSetsTest(unittest.TestCase):
    def test_plain_families(self):
        for family, told in [
            ([], []),
            ([""], [""]),
            (["", "a", "bc"], [""]),
            (["a", "b"], ["a", "b"]),
            (["ba", "ab", "aabb"], ["ab"]),
            (["abc", "cb", "d", "db"], ["d", "bc"]),
            (["ab", "abc", "bcd", "cdb"], ["ab", "bcd"]),
            (["a", "a", "aa"], ["a"]),
            ([LETTERS, "zy", "yzx"], ["yz"]),
        ]:
            with self.subTest(family=family):
                self.assertEqual(least_sets(family), told)

    def test_the_order_of_families(self):
        self.assertEqual(least_sets(["z", "cd", "ab", "y", "efg", "hk", "hij"]),
                         ["y", "z", "ab", "cd", "hk", "efg", "hij"])
        self.assertEqual(least_sets(["dcb", "xa", "yx", "b" + "a"]), ["ab", "ax", "xy", "bcd"])

    def test_other_families(self):
        for family in families():
            told = least_sets(family)
            self.assertIs(type(told), list)
            self.assertEqual(told, samples.plain_least(family), family)
            self.assertEqual(least_sets(told), told)

    def test_the_order_in_which_sets_and_letters_are_handed_in_is_no_matter(self):
        chance = random.Random(102)
        for family in families():
            mixed = ["".join(chance.sample(nails, len(nails))) for nails in chance.sample(family, len(family))]
            self.assertEqual(least_sets(mixed + family), least_sets(family))

    def test_many_sets_of_many_nails(self):
        pairs = ["".join(pair) for pair in itertools.combinations(LETTERS, 2)][:300]
        self.assertEqual(least_sets(list(reversed(pairs))), pairs)
        self.assertEqual(least_sets(pairs[:200] + [LETTERS] * 100), pairs[:200])
        self.assertEqual(least_sets([LETTERS[k:] for k in range(26)]), ["z"])


class MeetingSetsTest(unittest.TestCase):
    def test_plain_families(self):
        for family, told in [
            ([], [""]),
            ([""], []),
            (["", "a"], []),
            (["ab", "", "c"], []),
            (["a"], ["a"]),
            (["abc"], ["a", "b", "c"]),
            (["a", "b", "c"], ["abc"]),
            (["ab", "bc", "ac"], ["ab", "ac", "bc"]),
            (["ab", "cd"], ["ac", "ad", "bc", "bd"]),
            (["ba", "ab", "abc"], ["a", "b"]),
            (["a", "bc"], ["ab", "ac"]),
            (["ab", "bcd"], ["b", "ac", "ad"]),
            (["zy", "y"], ["y"]),
        ]:
            with self.subTest(family=family):
                self.assertEqual(meeting_sets(family), told)

    def test_against_a_plain_trying_of_all_sets(self):
        for family in families():
            told = meeting_sets(family)
            self.assertIs(type(told), list)
            self.assertEqual(told, plain_meeting(family), family)

    def test_the_meeting_sets_of_the_meeting_sets_are_the_least_sets(self):
        for family in families():
            self.assertEqual(meeting_sets(meeting_sets(family)), least_sets(family))

    def test_ten_nails(self):
        ten = "abcdefghij"
        fives = ["".join(chosen) for chosen in itertools.combinations(ten, 5)]
        sixes = ["".join(chosen) for chosen in itertools.combinations(ten, 6)]
        self.assertEqual(meeting_sets(fives), sixes)
        self.assertEqual(meeting_sets(sixes), fives)
        self.assertEqual(meeting_sets(list(ten)), [ten])
        self.assertEqual(meeting_sets([ten[::-1]]), list(ten))
        pairs = ["ab", "cd", "ef", "gh", "ij"]
        self.assertEqual(meeting_sets(pairs), ["".join(chosen) for chosen in itertools.product(*pairs)])
        chance = random.Random(103)
        for _ in range(3):
            family = [samples.random_row(chance, chance.randint(2, 6), "qrstuvwxyz") for _ in range(12)]
            self.assertEqual(meeting_sets(family), plain_meeting(family))


class RefusalsTest(unittest.TestCase):
    def test_things_that_are_no_sets(self):
        for thing in samples.NO_SETS:
            for family in ([thing], ["a", thing], [thing, "a"], ["", "ab", thing, "b"]):
                with self.subTest(family=family):
                    self.assertIs(samples.refusal_of(least_sets, family), NoNails)
                    self.assertIs(samples.refusal_of(meeting_sets, family), NoNails)

    def test_eleven_nails(self):
        for family in (["abcdefghijk"], list("abcdefghijk"), ["abcdef", "ghijk"], ["a", "abcdefghijk"], [LETTERS],
                       ["", "abcdefghijk"], ["kjihgfedcba", "ka"], ["z" * 9, "abcdefghij"]):
            with self.subTest(family=family):
                self.assertIs(samples.refusal_of(meeting_sets, family), TooMany)
                self.assertIsNone(samples.refusal_of(least_sets, family))

    def test_ten_nails_are_not_too_many(self):
        for family in (["abcdefghij"], list("qrstuvwxyz"), ["abcdef", "ghij", "aj"], ["a" * 50, "abcdefghij" * 5],
                       ["", "abcdefghij"]):
            self.assertIsNone(samples.refusal_of(meeting_sets, family))

    def test_no_nails_is_due_ahead_of_too_many(self):
        for thing in (None, "A", 5, True, ["a"], "a b"):
            for family in (["abcdefghijk", thing], [thing, "abcdefghijk"], list(LETTERS) + [thing]):
                self.assertIs(samples.refusal_of(meeting_sets, family), NoNails)
                self.assertIs(samples.refusal_of(least_sets, family), NoNails)
        self.assertIs(samples.refusal_of(meeting_sets, ["abcdefghijkL"]), NoNails)


class NothingChangesTest(unittest.TestCase):
    def test_nothing_changes(self):
        for family in families():
            samples.check_nothing_changes(self, least_sets, list(family))
            samples.check_nothing_changes(self, meeting_sets, list(family))

    def test_what_is_refused_stays_as_it_was(self):
        for family in (["abcdefghijk", "ba"], ["ba", ["a"]]):
            kept = repr(family)
            self.assertIsNotNone(samples.refusal_of(meeting_sets, family))
            self.assertEqual(repr(family), kept)


if __name__ == "__main__":
    unittest.main()
