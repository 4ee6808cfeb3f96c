import itertools
import random
import unittest

import samples
from nailhang.cords import check_cord, is_fall
from nailhang.drawing import falls_without, nails_of
from nailhang.errors import NoNails, NoRule, TooLong, TooMany
from nailhang.falling import falling_sets
from nailhang.making import cord_of, pieces_needed, round_back, rule_of
from nailhang.rules import at_least, turned_rule

TEN = "abcdefghij"
ELEVEN = "abcdefghijk"
LETTERS = "abcdefghijklmnopqrstuvwxyz"

# How many pieces the round and back of so many nails has, reckoned by hand.
ROUND_PIECES = {1: 1, 2: 4, 3: 10, 4: 16, 5: 28, 6: 40, 7: 52, 8: 64, 9: 88, 10: 112, 13: 184, 26: 736}


def plain_round(nails):
    if len(nails) == 1:
        return [(nails, 1)]
    middle = len(nails) - len(nails) // 2
    first, second = plain_round(nails[:middle]), plain_round(nails[middle:])
    return first + second + samples.turned_back(first) + samples.turned_back(second)


def rule_met_by(sets):
    """The rule whose cord is made of just these sets' rounds and back."""
    return turned_rule(samples.told_order(sets))


def four_sets(nails, number):
    return ["".join(chosen) for chosen in itertools.combinations(nails, 4)][:number]


class RoundBackTest(unittest.TestCase):
    def test_plain_sets(self):
        pair = [("a", 1), ("b", 1), ("a", -1), ("b", -1)]
        back = [("b", 1), ("a", 1), ("b", -1), ("a", -1)]
        self.assertEqual(round_back("a"), [("a", 1)])
        self.assertEqual(round_back("zzz"), [("z", 1)])
        self.assertEqual(round_back("ab"), pair)
        self.assertEqual(round_back("ba"), pair)
        self.assertEqual(round_back("abc"), pair + [("c", 1)] + back + [("c", -1)])
        other = [("c", 1), ("d", 1), ("c", -1), ("d", -1)]
        self.assertEqual(round_back("dcba"), pair + other + back + samples.turned_back(other))

    def test_sets_of_all_sizes(self):
        for nails in [LETTERS[:size] for size in range(1, 27)] + [LETTERS[-size:] for size in range(1, 27)]:
            told = round_back(nails)
            self.assertIs(type(told), list)
            self.assertIsNone(check_cord(told))
            self.assertEqual(told, plain_round(nails))
            self.assertEqual(nails_of(told), nails)

    def test_the_number_of_pieces(self):
        for size, pieces in ROUND_PIECES.items():
            self.assertEqual(len(round_back(LETTERS[:size])), pieces)
        for size in range(2, 27):
            halves = [LETTERS[:size - size // 2], LETTERS[:size // 2]]
            self.assertEqual(len(round_back(LETTERS[:size])), 2 * sum(len(round_back(half)) for half in halves))

    def test_any_order_and_nails_twice(self):
        chance = random.Random(141)
        for size in range(1, 27):
            nails = "".join(sorted(chance.sample(LETTERS, size)))
            mixed = "".join(chance.sample(nails, size)) + samples.random_row(chance, 4, nails)
            self.assertEqual(round_back(mixed), plain_round(nails))

    def test_it_hangs_and_falls_without_any_one(self):
        for size in range(1, 27):
            nails = LETTERS[26 - size:]
            cord = round_back(nails)
            self.assertFalse(is_fall(cord))
            for nail in nails:
                self.assertTrue(falls_without(cord, nail))

    def test_what_is_no_set_of_nails(self):
        for thing in samples.NO_SETS + [""]:
            with self.subTest(thing=thing):
                self.assertIs(samples.refusal_of(round_back, thing), NoNails)


class CordOfTest(unittest.TestCase):
    def check_it_falls_just_by(self, rule, cord):
        nails = "".join(sorted(set("".join(rule))))
        for chosen in samples.plain_sets(nails):
            self.assertIs(falls_without(cord, chosen), samples.plain_breaks(rule, chosen))

    def test_plain_rules(self):
        for rule, told in [
            (["a"], [("a", 1)]),
            (["ab"], [("a", 1), ("b", 1)]),
            (["a", "b"], plain_round("ab")),
            (["a", "bc"], plain_round("ab") + plain_round("ac")),
            (["ab", "bcd"], plain_round("b") + plain_round("ac") + plain_round("ad")),
            (["ab", "ac", "bc"], plain_round("ab") + plain_round("ac") + plain_round("bc")),
            (list("vwxyz"), plain_round("vwxyz")),
            ([TEN], [(nail, 1) for nail in TEN]),
        ]:
            with self.subTest(rule=rule):
                self.assertEqual(cord_of(rule), told)
                self.assertEqual(pieces_needed(rule), len(told))

    def test_nothing_is_put_together(self):
        self.assertEqual(cord_of(["c", "ab"]), plain_round("ac") + plain_round("bc"))
        told = cord_of(rule_met_by(["a", "bc", "bd", "cd"]))
        self.assertEqual(told, plain_round("a") + plain_round("bc") + plain_round("bd") + plain_round("cd"))
        self.assertEqual(len(cord_of(rule_met_by(["ab", "bc"]))), 8)
        self.assertEqual(cord_of(rule_met_by(["ab", "bc"]))[3:5], [("b", -1), ("b", 1)])

    def test_in_the_told_order_of_the_meeting_sets(self):
        for rule in samples.rules():
            if pieces_needed(rule) <= 800:
                planned = [piece for nails in turned_rule(rule) for piece in plain_round(nails)]
                self.assertEqual(cord_of(rule), planned)

    def test_it_falls_just_by_the_rule(self):
        for rule in samples.rules():
            if pieces_needed(rule) <= 800:
                cord = cord_of(rule)
                self.assertIs(type(cord), list)
                self.check_it_falls_just_by(rule, cord)
                self.assertEqual(falling_sets(cord), rule)
                self.assertEqual(rule_of(cord), rule)

    def test_the_pieces_are_told_without_making_it(self):
        for rule in samples.rules() + [at_least(TEN, number) for number in range(1, 11)]:
            pieces = sum(len(plain_round(nails)) for nails in turned_rule(rule))
            self.assertIs(type(pieces_needed(rule)), int)
            self.assertEqual(pieces_needed(rule), pieces)
            if pieces <= 800:
                self.assertEqual(len(cord_of(rule)), pieces)
            else:
                self.assertIs(samples.refusal_of(cord_of, rule), TooLong)

    def test_many_pieces(self):
        self.assertEqual(pieces_needed(at_least(TEN, 5)), 210 * 40)
        self.assertEqual(pieces_needed(at_least(TEN, 6)), 252 * 28)
        self.assertEqual(pieces_needed(at_least(TEN, 1)), 112)

    def test_just_800_pieces(self):
        for sets in (four_sets(TEN, 50), four_sets("qrstuvwxyz", 50), four_sets("abcdefghi", 49) + ["defj"]):
            rule = rule_met_by(sets)
            self.assertEqual(pieces_needed(rule), 800)
            cord = cord_of(rule)
            self.assertEqual(len(cord), 800)
            self.check_it_falls_just_by(rule, cord)
            self.assertEqual(falling_sets(cord), rule)

    def test_just_one_more(self):
        rule = rule_met_by(["j"] + four_sets("abcdefghi", 50))
        self.assertEqual(pieces_needed(rule), 801)
        self.assertIs(samples.refusal_of(cord_of, rule), TooLong)
        for more in (four_sets(TEN, 51), four_sets(TEN, 100)):
            self.assertIs(samples.refusal_of(cord_of, rule_met_by(more)), TooLong)

    def test_what_is_no_rule(self):
        for thing in samples.no_rules():
            with self.subTest(thing=thing):
                self.assertIs(samples.refusal_of(pieces_needed, thing), NoRule)
                self.assertIs(samples.refusal_of(cord_of, thing), NoRule)

    def test_eleven_nails(self):
        for rule in ([ELEVEN], list(ELEVEN), [LETTERS], list(LETTERS), ["abcdef", "fghijk"], ["z", TEN]):
            self.assertIs(samples.refusal_of(pieces_needed, rule), TooMany)
            self.assertIs(samples.refusal_of(cord_of, rule), TooMany)

    def test_no_rule_is_due_ahead_of_too_many_and_this_ahead_of_too_long(self):
        for thing in ([ELEVEN, "a"], [ELEVEN[::-1]], list(ELEVEN[::-1]), [ELEVEN, None], ["a", LETTERS], [LETTERS, 5],
                      at_least(TEN, 5) + [ELEVEN]):
            self.assertIs(samples.refusal_of(pieces_needed, thing), NoRule)
            self.assertIs(samples.refusal_of(cord_of, thing), NoRule)
        for rule in (at_least(TEN, 2) + ["klm"], ["k"] + at_least(TEN, 5)):
            self.assertIs(samples.refusal_of(pieces_needed, rule), TooMany)
            self.assertIs(samples.refusal_of(cord_of, rule), TooMany)
        long = at_least(TEN, 5)
        self.assertIs(samples.refusal_of(cord_of, long), TooLong)
        self.assertIs(samples.refusal_of(cord_of, long[::-1]), NoRule)


class RuleOfTest(unittest.TestCase):
    def test_plain_cords(self):
        for cord, told in [
            ([("a", 1)], ["a"]),
            ([("b", -5), ("a", 2)], ["ab"]),
            ([("a", 1), ("b", 1), ("a", -1)], ["b"]),
            ([("a", 1), ("b", 1), ("a", -1), ("b", -1)], ["a", "b"]),
            ([("a", 1), ("b", 0), ("c", 3), ("c", -3)], ["a"]),
        ]:
            self.assertEqual(rule_of(cord), told)

    def test_the_falling_sets_of_cords_that_hang(self):
        for cord in samples.some_cords()[:200]:
            if is_fall(cord):
                self.assertIs(samples.refusal_of(rule_of, cord), NoRule)
            else:
                self.assertIs(type(rule_of(cord)), list)
                self.assertEqual(rule_of(cord), falling_sets(cord))

    def test_cords_that_fall(self):
        for cord in samples.falling_cords():
            self.assertIs(samples.refusal_of(rule_of, cord), NoRule)
        for nails in (TEN, ELEVEN, LETTERS):
            hanging = [(nail, 1) for nail in nails]
            self.assertIs(samples.refusal_of(rule_of, hanging + samples.turned_back(hanging)), NoRule)
            self.assertIs(samples.refusal_of(rule_of, [(nail, 0) for nail in nails]), NoRule)

    def test_cords_of_eleven_nails_that_hang(self):
        self.assertEqual(rule_of([(nail, 1) for nail in TEN]), [TEN])
        for nails in (ELEVEN, LETTERS):
            for cord in ([(nail, 1) for nail in nails], [("a", 1)] + [(nail, 0) for nail in nails]):
                self.assertIs(samples.refusal_of(rule_of, cord), TooMany)


class NothingChangesTest(unittest.TestCase):
    def test_nothing_changes(self):
        for rule in samples.rules()[::5]:
            samples.check_nothing_changes(self, pieces_needed, list(rule))
            if pieces_needed(rule) <= 800:
                samples.check_nothing_changes(self, cord_of, list(rule))
                samples.check_nothing_changes(self, rule_of, cord_of(rule))
        for nails in ("a", "ba", "cab", LETTERS):
            samples.check_nothing_changes(self, round_back, nails)

    def test_what_is_refused_stays_as_it_was(self):
        for thing in samples.no_rules():
            kept = repr(thing)
            samples.refusal_of(pieces_needed, thing)
            samples.refusal_of(cord_of, thing)
            self.assertEqual(repr(thing), kept)


if __name__ == "__main__":
    unittest.main()
