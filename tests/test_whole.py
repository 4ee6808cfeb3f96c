"""What the document promises over the whole program: its points 1, 2 and 3."""

import copy
import importlib
import pathlib
import random
import unittest

import samples
from nailhang.blocks import blocks_of
from nailhang.cords import are_one, contrary, is_fall, joined, short_form
from nailhang.counting import times_in
from nailhang.drawing import falls_without, nails_of
from nailhang.errors import HangError, TooLong
from nailhang.falling import falling_sets, holding_sets
from nailhang.families import meeting_sets
from nailhang.gallery import Gallery
from nailhang.making import cord_of, pieces_needed, rule_of
from nailhang.reading import read, written
from nailhang.rulebook import read_rule, rule_text
from nailhang.rules import breaks, check_rule, turned_rule
from nailhang.slides import back_moves, moved
from nailhang.witness import told_apart, why_hangs
from test_interface import NAMES

CORD = [("a", 2), ("b", 1), ("b", -1), ("a", -1), ("c", 3), ("a", 0), ("b", -2), ("a", 1)]
OTHER = [("c", 3), ("b", -2), ("a", 1), ("a", 1)]
RULE = ["a", "bc", "bd"]

# Things to hand in, by the names that the interface gives to arguments.
HANDED = {
    "thing": [CORD, RULE, None, "a", ["ba"]], "cord": [CORD, OTHER, []], "one": [CORD, OTHER, []],
    "other": [OTHER, CORD, []], "row": ["ab", "", "cba"], "length": [0, 2, 3], "second": ["ba", "", "b"],
    "times": [2, -3, 0], "nails": ["ba", "", "A"], "family": [["ab", "bc", "b"], [], ["abc", ["a"]]],
    "rule": [RULE, ["ab"]], "number": [1, 2, 9], "text": ["b a", "[a,b](c)2", "A"],
    "moves": [[("slide", "a", "b", 2), ("turn", "c")], [], [("turn", "a"), ["turn", "a"]]],
}


def functions():
    """Every function of the interface with the names of its arguments."""
    for module, named in NAMES.items():
        for name, arguments in named.items():
            if name[0].islower():
                yield getattr(importlib.import_module(f"nailhang.{module}"), name), arguments


def handed_to(function, arguments, choice):
    """One choice of things to hand in; where rules are told, the second one is a rule too."""
    given = []
    for argument in arguments:
        things = HANDED["rule"] if argument == "second" and arguments[0] == "rule" else HANDED[argument]
        given.append(copy.deepcopy(things[choice % len(things)]))
    return function, given


def all_asks():
    return [handed_to(function, arguments, choice) for function, arguments in functions() for choice in range(5)]


def answer_of(function, given):
    try:
        return function(*given)
    except HangError as refusal:
        return type(refusal)


def told_by(function, given):
    """What is told, in a form that stays: of a term its pieces, its cord and its text."""
    told = answer_of(function, given)
    if function is read and not isinstance(told, type):
        return (told.pieces(), told.cord(), told.text())
    return told


def all_rules(sets):
    """All families of these sets none of which is a part of another one."""
    if not sets:
        return [[]]
    rest = all_rules(sets[1:])
    first = sets[0]
    beside = [rule for rule in rest if not any(set(one) <= set(first) or set(first) <= set(one) for one in rule)]
    return rest + [[first] + rule for rule in beside]


def put_together_anyhow(chance, cord):
    """The steps of point 5 in any order, as long as anything is left to be done."""
    left = list(cord)
    while True:
        idle = [("out", k) for k in range(len(left)) if left[k][1] == 0]
        pairs = [("pair", k) for k in range(len(left) - 1) if left[k][0] == left[k + 1][0]]
        if not idle + pairs:
            return left
        way, place = chance.choice(idle + pairs)
        if way == "out":
            del left[place]
        else:
            left[place:place + 2] = [(left[place][0], left[place][1] + left[place + 1][1])]


class NothingChangesTest(unittest.TestCase):
    def test_every_module_is_asked(self):
        package = pathlib.Path(importlib.import_module("nailhang").__file__).parent
        modules = {path.stem for path in package.glob("*.py")}
        self.assertEqual(modules - {"__init__", "errors"}, set(NAMES))
        self.assertGreater(len(all_asks()), 150)

    def test_what_is_handed_in_stays_and_what_is_told_may_be_changed(self):
        for function, given in all_asks():
            with self.subTest(function=function.__name__, given=given):
                kept = copy.deepcopy(given)
                first = copy.deepcopy(told_by(function, given))
                self.assertEqual(given, kept)
                samples.spoil(answer_of(function, given))
                self.assertEqual(given, kept)
                later = told_by(function, given)
                self.assertEqual(later, first)
                samples.spoil(given)
                self.assertEqual(later, first)
                self.assertEqual(told_by(function, kept), first)

    def test_the_same_is_told_again_whatever_is_asked_between(self):
        asks = all_asks()
        first = [copy.deepcopy(told_by(function, given)) for function, given in asks]
        for place in range(len(asks) - 1, -1, -1):
            self.assertEqual(told_by(*asks[place]), first[place], asks[place])
        self.assertEqual([told_by(function, given) for function, given in all_asks()], first)

    def test_the_gallery_and_the_functions_keep_apart(self):
        gallery = Gallery()
        gallery.say("hang x " + written(CORD))
        for function, given in all_asks():
            samples.spoil(answer_of(function, given))
        self.assertEqual(gallery.say("show x"), written(CORD))


class ThePromiseTest(unittest.TestCase):
    def test_one_short_form_whatever_is_put_together_first(self):
        chance = random.Random(191)
        for cord in samples.some_cords() + samples.falling_cords()[::5]:
            for _ in range(3):
                self.assertEqual(put_together_anyhow(chance, cord), short_form(cord))

    def test_cords_are_one_where_their_short_forms_are_the_same(self):
        chance = random.Random(192)
        cords = samples.short_cords(193, 100, 6)
        for cord, other in zip(cords, cords[1:]):
            self.assertTrue(are_one(cord, samples.much_changed(chance, cord, 3)))
            self.assertIs(are_one(cord, other), short_form(cord) == short_form(other))
            self.assertIs(are_one(cord, other), is_fall(joined(cord, contrary(other))))

    def test_blocks_or_a_row(self):
        chance = random.Random(194)
        for cord in samples.some_cords() + samples.falling_cords()[::5]:
            blocks, why = blocks_of(cord), why_hangs(cord)
            self.assertIs(blocks is None, why is not None)
            if why is None:
                self.assertTrue(all(sum(cord[k][1] for k in block) == 0 for block in blocks))
                self.assertTrue(all(len({cord[k][0] for k in block}) == 1 for block in blocks))
                continue
            self.assertNotEqual(why[1], 0)
            for one in (cord, samples.much_changed(chance, cord, 2)):
                self.assertEqual(times_in(why[0], one), why[1])

    def test_a_row_tells_two_cords_apart(self):
        cords = samples.short_cords(195, 120, 6)
        for cord, other in zip(cords, cords[1:]):
            apart = told_apart(cord, other)
            self.assertIs(apart is None, are_one(cord, other))
            if apart is not None:
                self.assertEqual(apart[1:], (times_in(apart[0], cord), times_in(apart[0], other)))
                self.assertNotEqual(apart[1], apart[2])

    def test_what_falls_with_some_nails_out_falls_with_more_out(self):
        for cord in samples.short_cords(196, 60, 9, "abcd"):
            sets = samples.plain_sets(nails_of(cord))
            falling = [one for one in sets if falls_without(cord, one)]
            for one in falling:
                self.assertTrue(all(more in falling for more in sets if set(one) <= set(more)))

    def test_each_of_the_two_families_tells_the_other_one(self):
        for cord in samples.short_cords(197, 100, 12, "abcde"):
            self.assertEqual(holding_sets(cord), meeting_sets(falling_sets(cord)))
            self.assertEqual(falling_sets(cord), meeting_sets(holding_sets(cord)))

    def test_every_rule_of_four_nails_has_its_cord(self):
        rules = [rule for rule in all_rules(samples.plain_sets("abcd")[1:]) if rule]
        self.assertEqual(len(rules), 166)
        for rule in rules:
            self.assertIsNone(check_rule(rule))
            cord = cord_of(rule)
            self.assertEqual(len(cord), pieces_needed(rule))
            self.assertEqual(rule_of(cord), rule)
            self.assertEqual(turned_rule(turned_rule(rule)), rule)
            self.assertEqual(read_rule(rule_text(rule)), rule)
            for nails in samples.plain_sets("abcd"):
                self.assertIs(falls_without(cord, nails), breaks(rule, nails))

    def test_rules_of_ten_nails_have_their_cords_or_are_too_long(self):
        for rule in samples.rules(198, 40, "abcdefghij"):
            if pieces_needed(rule) <= 800:
                self.assertEqual(rule_of(cord_of(rule)), rule)
            else:
                self.assertIs(samples.refusal_of(cord_of, rule), TooLong)

    def test_cords_of_rules_told_by_texts_moved_and_hung(self):
        moves = [("slide", "a", "b", 1), ("change", "b", "c"), ("turn", "a"), ("slide", "c", "d", -2)]
        for rule in ([["a", "b"], ["ab", "cd"], ["a", "bc"], ["ab", "ac", "bc"], ["abcd"]]):
            cord = cord_of(rule)
            self.assertEqual(read(written(cord)).cord(), short_form(cord))
            self.assertEqual(moved(moved(cord, moves), back_moves(moves)), short_form(cord))
            gallery = Gallery()
            self.assertEqual(gallery.say("make x " + rule_text(rule)), "ok")
            self.assertEqual(gallery.say("hang y " + written(cord)), "ok")
            self.assertEqual(gallery.say("same x y"), "yes")
            self.assertEqual(gallery.say("least y"), rule_text(rule))


if __name__ == "__main__":
    unittest.main()
