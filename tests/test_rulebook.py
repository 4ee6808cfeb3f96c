import random
import unittest

import samples
from nailhang.errors import NoRule
from nailhang.rulebook import read_rule, rule_text
from nailhang.rules import at_least, check_rule

LETTERS = "abcdefghijklmnopqrstuvwxyz"

NO_TEXTS = [
    # no signs, blanks alone, a blank at an end, two side by side
    "", " ", "  ", " a", "a ", "a  b", "a b ", " a b", "a b  c", " ab c ", "a   b",
    # a sign that is no nail
    "A", "a B", "a,b", "a, b", "a1", "1", "a-", "-", "a b-", "a\n", "\n", "a\nb", "a\tb", "\ta", "a b\n", "`", "{",
    "a {", "a|b", "a_b", "(a)", "a b c ~", "\u00e9", "a \u0430", "a\u00a0b",
]

NO_TEXT_AT_ALL = [
    None, True, False, 0, 1, -1, 10 ** 40, 1.5, [], ["a"], ["a", "b"], ["a", " ", "b"], (), ("a",), {}, {"a": "b"},
    [["a"]], b"a",
]


def texts():
    chance = random.Random(131)
    found = ["a", "z", "ab", "ba", "aa", "a a", "a b", "b a", "ab a", "a ab", "cb bc", "abc cb d", LETTERS]
    for _ in range(200):
        nails = chance.choice(["ab", "abcd", "aeiouy", LETTERS])
        words = [samples.random_row(chance, chance.randint(1, 6), nails) for _ in range(chance.randint(1, 9))]
        found.append(" ".join(words))
    return found


class RuleTextTest(unittest.TestCase):
    def test_plain_rules(self):
        for rule, told in [
            (["a"], "a"),
            (["ab"], "ab"),
            (["a", "b"], "a b"),
            (["c", "ab", "bde"], "c ab bde"),
            (list("xyz"), "x y z"),
            ([LETTERS], LETTERS),
        ]:
            self.assertEqual(rule_text(rule), told)

    def test_read_again_it_is_the_rule(self):
        rules = [read_rule(text) for text in texts()]
        for rule in rules + [at_least("abcdefghij", 5), at_least("stuvwxyz", 3)]:
            self.assertIs(type(rule_text(rule)), str)
            self.assertEqual(read_rule(rule_text(rule)), rule)


class ReadRuleTest(unittest.TestCase):
    def test_plain_texts(self):
        for text, told in [
            ("a", ["a"]),
            ("aa", ["a"]),
            ("ba", ["ab"]),
            ("b a", ["a", "b"]),
            ("a a", ["a"]),
            ("ab ba aab", ["ab"]),
            ("abc a", ["a"]),
            ("cb abc ad", ["ad", "bc"]),
            ("zyx w", ["w", "xyz"]),
            ("bb ab ca", ["b", "ac"]),
        ]:
            with self.subTest(text=text):
                self.assertEqual(read_rule(text), told)

    def test_the_least_ones_of_the_words(self):
        for text in texts():
            told = read_rule(text)
            self.assertIs(type(told), list)
            self.assertEqual(told, samples.plain_least(text.split(" ")))
            self.assertIsNone(check_rule(told))

    def test_long_texts(self):
        self.assertEqual(read_rule("a" * 5000), ["a"])
        self.assertEqual(read_rule(" ".join("zyxwvutsrqponmlkjihgfedcba" * 96)), list(LETTERS))
        self.assertEqual(read_rule(LETTERS[::-1] * 192), [LETTERS])

    def test_texts_that_write_no_rule(self):
        for text in NO_TEXTS:
            with self.subTest(text=text):
                self.assertIs(samples.refusal_of(read_rule, text), NoRule)

    def test_one_sign_spoils_it(self):
        for code in range(32, 127):
            sign = chr(code)
            if not "a" <= sign <= "z":
                for text in ("ab" + sign, sign + "ab", "a  b".replace("  ", " " + sign), "a b c" + sign + " d"):
                    self.assertIs(samples.refusal_of(read_rule, text), NoRule, text)

    def test_things_of_every_other_kind(self):
        for thing in NO_TEXT_AT_ALL:
            with self.subTest(thing=thing):
                self.assertIs(samples.refusal_of(read_rule, thing), NoRule)


class NothingChangesTest(unittest.TestCase):
    def test_nothing_changes(self):
        for text in texts()[:60]:
            samples.check_nothing_changes(self, read_rule, text)
            samples.check_nothing_changes(self, rule_text, read_rule(text))

    def test_what_is_refused_stays_as_it_was(self):
        for thing in NO_TEXT_AT_ALL:
            kept = repr(thing)
            samples.refusal_of(read_rule, thing)
            self.assertEqual(repr(thing), kept)


if __name__ == "__main__":
    unittest.main()
