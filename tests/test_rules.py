import itertools
import random
import unittest

import samples
from nailhang.errors import NoNails, NoRule, TooMany
from nailhang.families import meeting_sets
from nailhang.rules import at_least, both_rules, breaks, check_rule, either_rule, turned_rule

TEN = "abcdefghij"
ELEVEN = "abcdefghijk"
LETTERS = "abcdefghijklmnopqrstuvwxyz"


def pairs_of_rules():
    first = samples.rules()
    second = samples.rules(122, 150, "cdefghi")
    return list(zip(first, second)) + list(zip(first, first[1:] + first[:1]))


def sets_that(nails, holds):
    """The rule by which just those sets break that this holds for, by trying all sets."""
    return samples.plain_least([one for one in samples.plain_sets(nails) if holds(one)])


def broken_by(nails, *of_rules):
    return [samples.plain_breaks(rule, nails) for rule in of_rules]


def nails_in(*of_rules):
    return "".join(sorted(set("".join("".join(rule) for rule in of_rules))))


class CheckRuleTest(unittest.TestCase):
    def test_rules(self):
        pairs = ["".join(pair) for pair in itertools.combinations(LETTERS, 2)]
        others = [list(LETTERS), [LETTERS], pairs[:300], ["z"], ["y", "z"], ["b", "ac"], ["bc", "ade"]]
        for rule in samples.rules() + others:
            self.assertIsNone(check_rule(rule))

    def test_what_is_no_rule(self):
        for thing in samples.no_rules():
            with self.subTest(thing=thing):
                self.assertIs(samples.refusal_of(check_rule, thing), NoRule)

    def test_one_spoiled_set_among_many(self):
        good = ["".join(pair) for pair in itertools.combinations(LETTERS, 2)][:300]
        for place in (0, 1, 150, 299):
            for spoiled in ("", "a", "aa", "ba", "abc", "AB", "a ", None, 5, ["a", "b"], ("a", "b")):
                thing = good[:place] + [spoiled] + good[place + 1:]
                self.assertIs(samples.refusal_of(check_rule, thing), NoRule)

    def test_every_other_order_of_a_rule_is_none(self):
        for rule in (["a", "b", "c"], ["c", "ab", "bd"], ["ab", "cd", "ace"]):
            for order in itertools.permutations(rule):
                told = None if list(order) == rule else NoRule
                self.assertIs(samples.refusal_of(check_rule, list(order)), told)


class BreaksTest(unittest.TestCase):
    def test_plain_rules(self):
        for rule, nails, told in [
            (["a"], "", False),
            (["a"], "a", True),
            (["a"], "b", False),
            (["a"], "zyxa", True),
            (["ab"], "a", False),
            (["ab"], "ab", True),
            (["ab"], "ba", True),
            (["ab"], "aab", True),
            (["ab"], "aa", False),
            (["ab"], "cbza", True),
            (["a", "bc"], "bd", False),
            (["a", "bc"], "bdc", True),
            (["abc"], "abd", False),
            ([LETTERS], LETTERS[::-1], True),
            ([LETTERS], LETTERS[1:], False),
            ([LETTERS], LETTERS[:-1], False),
            (list(LETTERS), "m", True),
            (list(LETTERS), "", False),
        ]:
            with self.subTest(rule=rule, nails=nails):
                self.assertIs(breaks(rule, nails), told)

    def test_all_sets(self):
        for rule in samples.rules()[:40]:
            for nails in samples.plain_sets("abcdefgz"):
                self.assertIs(breaks(rule, nails), samples.plain_breaks(rule, nails))

    def test_what_is_no_set_of_nails(self):
        for thing in samples.NO_SETS:
            for rule in (["a"], ["ab", "bc"], list(LETTERS)):
                self.assertIs(samples.refusal_of(breaks, rule, thing), NoNails)


class TwoRulesTest(unittest.TestCase):
    def test_plain_rules(self):
        for rule, second, both, either in [
            (["a"], ["a"], ["a"], ["a"]),
            (["a"], ["b"], ["ab"], ["a", "b"]),
            (["b"], ["a"], ["ab"], ["a", "b"]),
            (["a", "b"], ["b", "c"], ["b", "ac"], ["a", "b", "c"]),
            (["ab"], ["abc"], ["abc"], ["ab"]),
            (["ab"], ["cd"], ["abcd"], ["ab", "cd"]),
            (["z"], ["a", "bc"], ["az", "bcz"], ["a", "z", "bc"]),
        ]:
            with self.subTest(rule=rule, second=second):
                self.assertEqual(both_rules(rule, second), both)
                self.assertEqual(either_rule(rule, second), either)

    def test_against_a_plain_trying_of_all_sets(self):
        for rule, second in pairs_of_rules():
            nails = nails_in(rule, second)
            both = both_rules(rule, second)
            either = either_rule(rule, second)
            self.assertIs(type(both), list)
            self.assertIs(type(either), list)
            self.assertEqual(both, sets_that(nails, lambda one: all(broken_by(one, rule, second))))
            self.assertEqual(either, sets_that(nails, lambda one: any(broken_by(one, rule, second))))
            self.assertIsNone(check_rule(both))
            self.assertIsNone(check_rule(either))

    def test_turned_round_both_is_either(self):
        for rule, second in pairs_of_rules():
            self.assertEqual(turned_rule(both_rules(rule, second)),
                             either_rule(turned_rule(rule), turned_rule(second)))
            self.assertEqual(turned_rule(either_rule(rule, second)),
                             both_rules(turned_rule(rule), turned_rule(second)))

    def test_with_itself_and_the_other_way_about(self):
        for rule, second in pairs_of_rules()[::4]:
            for put in (both_rules, either_rule):
                self.assertEqual(put(rule, rule), rule)
                self.assertEqual(put(rule, second), put(second, rule))

    def test_ten_nails(self):
        fives = at_least(TEN, 5)
        fours = at_least(TEN, 4)
        self.assertEqual(both_rules(fives, fours), fives)
        self.assertEqual(either_rule(fives, fours), fours)
        self.assertEqual(both_rules(["abcde"], ["fghij"]), [TEN])
        self.assertEqual(either_rule(["abcde"], list("fghij")), list("fghij") + ["abcde"])
        self.assertEqual(both_rules(list(TEN), [TEN]), [TEN])

    def test_eleven_nails(self):
        for rule, second in (
            (["abcdef"], ["ghijk"]), (list("abcdef"), list("ghijk")), ([ELEVEN], ["a"]), (["a"], list(ELEVEN)),
            (["b"], [ELEVEN]), ([TEN], ["z"]), (["z"], list(TEN)), (["k"], [ELEVEN]), ([LETTERS], [LETTERS]),
            (["a"], ["abcdefghijk"]),
        ):
            with self.subTest(rule=rule, second=second):
                self.assertIs(samples.refusal_of(both_rules, rule, second), TooMany)
                self.assertIs(samples.refusal_of(either_rule, rule, second), TooMany)


class TurnedRuleTest(unittest.TestCase):
    def test_plain_rules(self):
        for rule, told in [
            (["a"], ["a"]),
            (["ab"], ["a", "b"]),
            (["a", "b"], ["ab"]),
            (["ab", "ac", "bc"], ["ab", "ac", "bc"]),
            (["a", "bc"], ["ab", "ac"]),
            (list(TEN), [TEN]),
            ([TEN], list(TEN)),
        ]:
            with self.subTest(rule=rule):
                self.assertEqual(turned_rule(rule), told)

    def test_against_a_plain_trying_of_all_sets(self):
        for rule in samples.rules():
            nails = nails_in(rule)
            told = turned_rule(rule)
            self.assertIs(type(told), list)
            self.assertEqual(told, sets_that(nails, lambda one: not samples.plain_breaks(rule, set(nails) - set(one))))
            self.assertEqual(told, meeting_sets(rule))
            self.assertIsNone(check_rule(told))

    def test_turned_round_twice_it_is_itself(self):
        for rule in samples.rules() + [at_least(TEN, number) for number in range(1, 11)]:
            self.assertEqual(turned_rule(turned_rule(rule)), rule)

    def test_eleven_nails(self):
        for rule in ([ELEVEN], list(ELEVEN), [LETTERS], ["abcdef", "fghijk"], ["z", "abcdefghij"]):
            self.assertIs(samples.refusal_of(turned_rule, rule), TooMany)


class AtLeastTest(unittest.TestCase):
    def test_plain_rules(self):
        for nails, number, told in [
            ("a", 1, ["a"]),
            ("aaa", 1, ["a"]),
            ("ba", 1, ["a", "b"]),
            ("ba", 2, ["ab"]),
            ("cab", 2, ["ab", "ac", "bc"]),
            ("cabbac", 3, ["abc"]),
        ]:
            with self.subTest(nails=nails, number=number):
                self.assertEqual(at_least(nails, number), told)

    def test_against_all_sets_of_just_so_many(self):
        chance = random.Random(123)
        for nails in ("a", "xy", "bdf", "aeiou", "stuvwx", "abcdefg", TEN, LETTERS[-10:]):
            for number in range(1, len(nails) + 1):
                mixed = "".join(chance.sample(nails, len(nails))) + samples.random_row(chance, 5, nails)
                told = at_least(mixed, number)
                self.assertIs(type(told), list)
                self.assertEqual(told, ["".join(chosen) for chosen in itertools.combinations(nails, number)])
                self.assertEqual(at_least(nails, number), told)
                self.assertIsNone(check_rule(told))
                self.assertEqual(turned_rule(told), at_least(nails, len(nails) + 1 - number))

    def test_numbers_that_are_none(self):
        many = samples.THIRTY_FIGURES
        for nails in ("a", "ba", "abcde", "aabbccdd", TEN, "z" * 50):
            size = len(set(nails))
            for number in (0, -1, -size, size + 1, size + 2, many, -many, True, False, None, "", "1", "a", 1.0, [1],
                           (1,), {}, [], {1: 1}):
                with self.subTest(nails=nails, number=number):
                    self.assertIs(samples.refusal_of(at_least, nails, number), NoRule)

    def test_no_nails_at_all(self):
        for number in (0, 1, -1, None, True):
            self.assertIs(samples.refusal_of(at_least, "", number), NoRule)

    def test_what_is_no_set_of_nails(self):
        for thing in samples.NO_SETS:
            for number in (1, 2, 0, None, True, "1", samples.THIRTY_FIGURES):
                self.assertIs(samples.refusal_of(at_least, thing, number), NoNails)
        self.assertIs(samples.refusal_of(at_least, "abcdefghijkL", 1), NoNails)
        self.assertIs(samples.refusal_of(at_least, LETTERS + " ", 0), NoNails)

    def test_eleven_nails(self):
        for nails in (ELEVEN, LETTERS, LETTERS[::-1], ELEVEN * 3):
            for number in (1, 5, 11, 0, -1, 27, None, True, "1", samples.THIRTY_FIGURES):
                self.assertIs(samples.refusal_of(at_least, nails, number), TooMany)
        self.assertIsNone(samples.refusal_of(at_least, TEN * 3, 10))
        self.assertIs(samples.refusal_of(at_least, TEN * 3, 11), NoRule)


class NothingChangesTest(unittest.TestCase):
    def test_nothing_changes(self):
        for rule, second in pairs_of_rules()[::6]:
            samples.check_nothing_changes(self, both_rules, list(rule), list(second))
            samples.check_nothing_changes(self, either_rule, list(rule), list(second))
            samples.check_nothing_changes(self, turned_rule, list(rule))
            samples.check_nothing_changes(self, breaks, list(rule), "abcd")
        for number in range(1, 6):
            samples.check_nothing_changes(self, at_least, "abcde", number)

    def test_a_rule_put_together_with_itself_is_a_new_list(self):
        rule = ["a", "bc"]
        for put in (both_rules, either_rule):
            samples.spoil(put(rule, rule))
            self.assertEqual(rule, ["a", "bc"])

    def test_what_is_checked_stays_as_it_was(self):
        for thing in samples.no_rules() + samples.rules()[:20]:
            kept = repr(thing)
            samples.refusal_of(check_rule, thing)
            self.assertEqual(repr(thing), kept)


if __name__ == "__main__":
    unittest.main()
