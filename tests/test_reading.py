import random
import re
import unittest

import samples
from nailhang.cords import are_one, short_form
from nailhang.errors import NoText, TooLong
from nailhang.reading import read, written
from nailhang.terms import Back, Parts, Piece, Times

LONG = "9" * 30

NUMBER = r"(?:0|-?[1-9][0-9]{0,29})"
ITEMS = rf"(?:[a-z]{NUMBER}?|@)*"
CLOSED = re.compile(rf"\({ITEMS}\){NUMBER}?|\[{ITEMS},{ITEMS}\]")

NO_TEXTS = [
    # numbers
    "a-", "a-0", "a00", "a01", "a-01", "a--1", "a+1", "a1-", "a1-1", "a0-1", "a-1-", "a1.5", "a1 ", "a 1", "a1_0",
    "a" + "1" * 31, "a-" + "1" * 31, "a1" + "0" * 30, "a" + "0" * 30, "(a)" + "1" * 31, "(a)-" + "9" * 31,
    "1", "0", "-", "-1", "1a", "-a", "2(a)", "0a", "12",
    "(a)-", "(a)-0", "(a)00", "(a)01", "(a)+1", "()-0", "()00", "(1)", "(-)", "(-1)a", "(2a)",
    # round brackets
    "(", ")", "(a", "a)", "(a))", "((a)", ")(", "a(", "(a(b)", "(a]", "(a,b)", "(,)", "(a,)", "(a)(", "())",
    # square brackets
    "[", "]", "[]", "[a]", "[a", "[a,", "[a,b", "a,b]", "a]", ",", "a,b", "a,", ",b", "[a,b,c]", "[,,]", "[a,b)",
    "[a;b]", "[a,,b]", "[a b]", "[ab]", "[a,b]2", "[a,b]0", "[a,b]-1", "[a,b]1", "[,]1", "[,]-2", "[[a,b]", "[a,b]]",
    "[(a,b)]", "([a,b)]", "([a),b]", "[a,(b])", "[(a],b)", "(a[)b,c]",
    # blanks, great letters, line ends, tabs and other signs
    " ", " a", "a ", "a b", "( a)", "(a )", "[a, b]", "[a ,b]", "(a) 2", "A", "aB", "Ab", "(A)", "[A,b]", "[a,B]",
    "\n", "a\n", "\na", "a\nb", "(a)\n", "(a)2\n", "\t", "a\t", "\ta", "a\tb", "[a,\tb]", "a1\n", "{a}", "<a>", "a*2",
    "a^2", "a_", "`", "{", "a.b", "a;b", "a'", "\"a\"", "a~", "a!", "a=b", "a/b", "\\n", "a#",
]

NO_TEXT_AT_ALL = [
    None, True, False, 0, 1, -1, 10 ** 40, 1.5, [], ["a"], ["a", "b"], (), ("a",), ("a", 1), [("a", 1)], {},
    {"a": 1}, [[]], b"a", b"",
]


def depth_of(text):
    deepest = depth = 0
    for sign in text:
        depth += (sign in "([") - (sign in ")]")
        deepest = max(deepest, depth)
    return deepest


def is_plain_text(text):
    """Whether a text tells a cord: brackets with nothing but parts between are taken away until none is left."""
    if "@" in text or depth_of(text) > 30:
        return False
    before = None
    while before != text:
        before, text = text, CLOSED.sub("@", text)
    return re.fullmatch(ITEMS, text) is not None


def random_text(chance, depth):
    """A text, its pieces, and the text with each number 1 left out."""
    told, pieces, short = "", [], ""
    for _ in range(chance.randint(0, 3)):
        number = random_number(chance)
        value = int(number) if number else 1
        kept = "" if value == 1 else number
        kind = chance.choice(["piece", "times", "back"]) if depth > 0 else "piece"
        if kind == "piece":
            nail = chance.choice("abyz")
            told, short, pieces = told + nail + number, short + nail + kept, pieces + [(nail, value)]
            continue
        one = random_text(chance, depth - 1)
        if kind == "times":
            if abs(value) > 5:
                number, kept, value = "-2", "-2", -2
            some = one[1] * value if value >= 0 else samples.turned_back(one[1]) * -value
            told, short, pieces = f"{told}({one[0]}){number}", f"{short}({one[2]}){kept}", pieces + some
            continue
        other = random_text(chance, depth - 1)
        some = one[1] + other[1] + samples.turned_back(one[1]) + samples.turned_back(other[1])
        told, short, pieces = f"{told}[{one[0]},{other[0]}]", f"{short}[{one[2]},{other[2]}]", pieces + some
    return told, pieces, short


def random_number(chance):
    return chance.choice(["", "", "1", "0", "2", "-1", "-3", "10", LONG, "-" + LONG, str(chance.randint(-99, 99))])


def random_texts():
    chance = random.Random(161)
    return [random_text(chance, depth) for depth in (0, 1, 2, 3) for _ in range(80)]


class ReadTest(unittest.TestCase):
    def check_text(self, text, pieces, short=None):
        term = read(text)
        self.assertIs(type(term), Parts)
        self.assertEqual(term.pieces(), len(pieces))
        self.assertEqual(term.cord(), pieces)
        self.assertEqual(term.text(), text if short is None else short)

    def test_plain_texts(self):
        for text, pieces in [
            ("", []),
            ("a", [("a", 1)]),
            ("a0", [("a", 0)]),
            ("ab", [("a", 1), ("b", 1)]),
            ("aa-1", [("a", 1), ("a", -1)]),
            ("a2b-3c0", [("a", 2), ("b", -3), ("c", 0)]),
            ("()", []),
            ("()0", []),
            ("()7", []),
            ("(a)", [("a", 1)]),
            ("(ab2)2", [("a", 1), ("b", 2), ("a", 1), ("b", 2)]),
            ("(ab2)-1", [("b", -2), ("a", -1)]),
            ("(ab2)-2", [("b", -2), ("a", -1), ("b", -2), ("a", -1)]),
            ("(ab2)0", []),
            ("(ab2)0c", [("c", 1)]),
            ("[a,b]", [("a", 1), ("b", 1), ("a", -1), ("b", -1)]),
            ("[a2b,c-1]", [("a", 2), ("b", 1), ("c", -1), ("b", -1), ("a", -2), ("c", 1)]),
            ("[,]", []),
            ("[a,]", [("a", 1), ("a", -1)]),
            ("[,b]", [("b", 1), ("b", -1)]),
            ("x(y)2[z,]w", [("x", 1), ("y", 1), ("y", 1), ("z", 1), ("z", -1), ("w", 1)]),
            ("((a)2b)2", [("a", 1), ("a", 1), ("b", 1)] * 2),
            ("([a,b])-1", [("b", 1), ("a", 1), ("b", -1), ("a", -1)]),
        ]:
            with self.subTest(text=text):
                self.check_text(text, pieces)

    def test_every_letter_with_and_without_numbers(self):
        for nail in samples.LETTERS:
            self.check_text(nail, [(nail, 1)])
            for number in ("0", "2", "9", "10", "-1", "-2", "-10", LONG, "-" + LONG, "1" + "0" * 29, "123456789" * 3):
                self.check_text(nail + number, [(nail, int(number))])
        self.check_text(samples.LETTERS, [(nail, 1) for nail in samples.LETTERS])

    def test_numbers_of_up_to_thirty_figures(self):
        for figures in range(1, 31):
            for number in ("1" + "0" * (figures - 1), "9" * figures, "-" + "8" * figures):
                short = "a" if number == "1" else "a" + number
                self.check_text("a" + number, [("a", int(number))], short)

    def test_a_number_1_is_left_out(self):
        for text, short in (("a1", "a"), ("(a)1", "(a)"), ("(a1b1)1c-1", "(ab)c-1"), ("[a1,(b1)1]", "[a,(b)]"),
                            ("a1b11c1", "ab11c"), ("()1", "()")):
            self.assertEqual(read(text).text(), short)
            self.assertEqual(read(short).cord(), read(text).cord())

    def test_the_terms(self):
        term = read("a-2(b)3[c,d]")
        self.assertEqual([type(part) for part in term.parts], [Piece, Times, Back])
        self.assertEqual((term.parts[0].nail, term.parts[0].turns), ("a", -2))
        self.assertEqual((term.parts[1].body.text(), term.parts[1].number), ("b", 3))
        self.assertEqual((term.parts[2].one.text(), term.parts[2].other.text()), ("c", "d"))
        self.assertEqual([part.text() for part in read("a1b(c)1").parts], ["a", "b", "(c)"])
        self.assertEqual(read("").parts, [])
        self.assertEqual(read("a").parts[0].turns, 1)
        self.assertEqual(read("(a)").parts[0].number, 1)

    def test_texts_of_every_kind(self):
        for text, pieces, short in random_texts():
            with self.subTest(text=text):
                self.check_text(text, pieces, short)
                self.assertEqual(read(short).text(), short)

    def test_brackets_thirty_deep(self):
        for deep in (1, 2, 29, 30):
            self.check_text("(" * deep + "a" + ")" * deep, [("a", 1)])
            self.check_text("(" * deep + ")0" * deep, [])
            self.check_text("(" * deep + "ab" + ")-1" * deep,
                            [("a", 1), ("b", 1)] if deep % 2 == 0 else [("b", -1), ("a", -1)])
            self.assertEqual(read("[" * deep + "a" + ",b]" * deep).pieces(), 3 * 2 ** deep - 2)
            self.assertEqual(read("[b," * deep + "a" + "]" * deep).pieces(), 3 * 2 ** deep - 2)
            self.check_text("[" * deep + ",]" * deep, [])
            self.check_text("([," * (deep // 2) + "])" * (deep // 2), [])
            side = "(" * deep + ")" * deep
            self.check_text(side + side + "a", [("a", 1)])
        self.check_text("(" * 29 + "[a,b]" + ")" * 29, [("a", 1), ("b", 1), ("a", -1), ("b", -1)])

    def test_brackets_thirty_one_deep(self):
        for deep in (31, 32, 100, 1600, 2400):
            for text in ("(" * deep + ")" * deep, "(" * deep + "a" + ")" * deep, "[" * deep + ",]" * deep, "[," * deep
                         + "]" * deep, "a" + "(" * deep + ")0" * deep):
                self.assertIs(samples.refusal_of(read, text), NoText)
        for text in ("(" * 30 + "[,]" + ")" * 30, "([," * 15 + "()" + "])" * 15, "[" * 30 + "()" + ",]" * 30,
                     "[," * 30 + "(a)0" + "]" * 30, "(" * 5000, "[" * 5000, "[," * 2500):
            self.assertIs(samples.refusal_of(read, text), NoText)

    def test_what_is_no_such_text(self):
        for text in NO_TEXTS:
            with self.subTest(text=text):
                self.assertFalse(is_plain_text(text))
                self.assertIs(samples.refusal_of(read, text), NoText)

    def test_one_sign_spoils_it(self):
        for text, pieces, short in random_texts()[::8]:
            for sign in " \n\tA!\"#$&'*+./:;<=>?@Z\\^_`{|}~":
                for place in range(0, len(text) + 1, 3):
                    self.assertIs(samples.refusal_of(read, text[:place] + sign + text[place:]), NoText)

    def test_against_a_plain_taking_away_of_brackets(self):
        chance = random.Random(162)
        found = {True: 0, False: 0}
        tried = ["".join(chance.choice("aab()()[],,]-012") for _ in range(chance.randint(1, 9))) for _ in range(4000)]
        for text, pieces, short in random_texts():
            place = chance.randint(0, len(text))
            tried += [text[:place] + text[place + 1:], text[:place] + chance.choice("a(),[]-019") + text[place:]]
        for text in tried:
            good = is_plain_text(text)
            found[good] += 1
            self.assertIs(samples.refusal_of(read, text), None if good else NoText, text)
        self.assertGreater(min(found.values()), 150)

    def test_things_of_every_other_kind(self):
        for thing in NO_TEXT_AT_ALL:
            with self.subTest(thing=thing):
                self.assertIs(samples.refusal_of(read, thing), NoText)

    def test_long_texts(self):
        self.check_text("ab-2" * 1000, [("a", 1), ("b", -2)] * 1000)
        self.check_text("a" * 4000, [("a", 1)] * 4000)
        self.check_text("()" * 2500, [])
        self.check_text("[,]" * 1666, [])
        self.assertEqual(read("a" * 5000).pieces(), 5000)
        self.assertIs(samples.refusal_of(read("a" * 4001).cord), TooLong)


class LengthTest(unittest.TestCase):
    def test_4000_pieces_and_one_more(self):
        for text, pieces in (
            ("(a)4000", 4000), ("(a)4001", 4001), ("(a)-4000", 4000), ("(a)-4001", 4001), ("(ab)2000", 4000),
            ("(ab)2000c0", 4001), ("((a)40)-100", 4000), ("((ab)-20)100c", 4001), ("[(a)1000,(b)-1000]", 4000),
            ("[(a)1001,(b)1000]", 4002), ("([a,b])1000", 4000), ("([a,b])-1001", 4004), ("a0" * 2000 + "(b)2000", 4000),
            ("a0" * 2000 + "(b)2001", 4001), ("(a)" + LONG, int(LONG)), ("((a)" + LONG + ")-" + LONG, int(LONG) ** 2),
            ("((a)" + LONG + ")0(b)4000", 4000), ("((a)" + LONG + ")0(b)4001", 4001), ("((a)4001)0", 0),
            ("(()" + LONG + ")" + LONG, 0), ("()" + LONG, 0), ("([,]a0)4000", 4000), ("((a)0)-" + LONG, 0),
            ("[(a)" + LONG + ",]", 2 * int(LONG)), ("([(a)" + LONG + ",])0", 0), ("[((a)4001)0,b]", 2),
        ):
            with self.subTest(text=text):
                term = read(text)
                self.assertEqual(term.pieces(), pieces)
                self.assertEqual(term.text(), text)
                if pieces > 4000:
                    self.assertIs(samples.refusal_of(term.cord), TooLong)
                else:
                    self.assertEqual(len(term.cord()), pieces)


class WrittenTest(unittest.TestCase):
    def test_plain_cords(self):
        for cord, text in [
            ([], ""),
            ([("a", 1)], "a"),
            ([("a", 0)], ""),
            ([("a", -1)], "a-1"),
            ([("a", 1), ("a", 1)], "a2"),
            ([("a", 2), ("a", -1)], "a"),
            ([("a", 1), ("b", 5), ("b", -5), ("a", -1)], ""),
            ([("a", 1), ("b", -2), ("c", 10), ("d", 0)], "ab-2c10"),
            ([("a", 1), ("b", 1), ("a", -1), ("b", -1)], "aba-1b-1"),
            ([("z", int(LONG)), ("y", -int(LONG))], "z" + LONG + "y-" + LONG),
        ]:
            with self.subTest(cord=cord):
                self.assertEqual(written(cord), text)

    def test_the_text_of_the_runs(self):
        for cord in samples.some_cords():
            text = "".join(nail + ("" if turns == 1 else str(turns)) for nail, turns in short_form(cord))
            self.assertIs(type(written(cord)), str)
            self.assertEqual(written(cord), text)

    def test_cords_that_fall_have_no_signs(self):
        for cord in samples.falling_cords() + [samples.long_falling_cord(4000)]:
            self.assertEqual(written(cord), "")

    def test_written_read_and_written_again(self):
        chance = random.Random(163)
        for nails in ("a", "ab", "abc", samples.LETTERS):
            for _ in range(60):
                cord = [(chance.choice(nails), chance.choice([1, -1, 0, 2, -7, int(LONG), -int(LONG)]))
                        for _ in range(chance.randint(0, 14))]
                if any(abs(turns) > int(LONG) for nail, turns in short_form(cord)):
                    continue
                text = written(cord)
                self.assertEqual(read(text).cord(), short_form(cord))
                self.assertTrue(are_one(read(text).cord(), cord))
                self.assertEqual(read(text).text(), text)
                self.assertEqual(written(read(text).cord()), text)

    def test_long_cords(self):
        self.assertEqual(written([("a", 1), ("b", 1)] * 2000), "ab" * 2000)
        self.assertEqual(written([("a", 1)] * 4000), "a4000")


class NothingChangesTest(unittest.TestCase):
    def test_nothing_changes(self):
        for cord in samples.some_cords()[::4]:
            samples.check_nothing_changes(self, written, list(cord))
        for text, pieces, short in random_texts()[::4]:
            samples.check_nothing_changes(self, lambda handed: read(handed).cord(), text)

    def test_terms_read_of_one_text_are_their_own(self):
        one, other = read("ab(c)2"), read("ab(c)2")
        one.parts.clear()
        one.cord().clear()
        self.assertEqual(other.text(), "ab(c)2")
        self.assertEqual(len(other.parts), 3)
        self.assertEqual(len(read("ab(c)2").parts), 3)

    def test_what_is_refused_stays_as_it_was(self):
        for thing in NO_TEXT_AT_ALL:
            kept = repr(thing)
            samples.refusal_of(read, thing)
            self.assertEqual(repr(thing), kept)


if __name__ == "__main__":
    unittest.main()
