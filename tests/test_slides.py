import random
import unittest

import samples
from nailhang.cords import are_one, short_form
from nailhang.errors import NoMove, TooLong
from nailhang.slides import back_moves, moved

LONG = 10 ** 30 - 1

NO_MOVES = [
    # no tuple
    None, True, False, 0, 1, -1, 1.5, "", "turn", "turn a", "slide", [], ["turn", "a"], ["change", "a", "b"],
    ["slide", "a", "b", 1], {}, {"turn": "a"}, {0: "turn", 1: "a"}, [("turn", "a")],
    # another word, or none
    (), ("a",), ("a", "b"), ("Turn", "a"), ("turns", "a"), ("turn ", "a"), ("", "a"), (None, "a"), (True, "a"),
    (1, "a"), (["turn"], "a"), (("turn",), "a"), ({}, "a"), ("swap", "a", "b"), ("Change", "a", "b"),
    ("SLIDE", "a", "b", 1), ("slid", "a", "b", 1), ("draw", "a"), ("turn\n", "a"), ("move", "a", "b", 1),
    # a nail too few or too many
    ("turn",), ("turn", "a", "b"), ("turn", "a", "b", 1), ("turn", "a", 1), ("turn", "a", None), ("change",),
    ("change", "a"), ("change", "a", "b", "c"), ("change", "a", "b", 1), ("change", "a", "b", 0), ("slide",),
    ("slide", "a"), ("slide", "a", "b"), ("slide", "a", 1), ("slide", "a", "b", "c"), ("slide", "a", "b", "c", 1),
    ("slide", "a", "b", 1, 1), ("slide", "a", "b", 1, None), ("slide", ("a", "b"), 1), ("change", ("a", "b")),
    # twice the same nail
    ("change", "a", "a"), ("slide", "a", "a", 1), ("slide", "z", "z", 0), ("slide", "a", "a", -1),
    # times that are no whole number
    ("slide", "a", "b", True), ("slide", "a", "b", False), ("slide", "a", "b", None), ("slide", "a", "b", "1"),
    ("slide", "a", "b", ""), ("slide", "a", "b", [1]), ("slide", "a", "b", (1,)), ("slide", "a", "b", {}),
    ("slide", "a", "b", 1.0), ("slide", "a", "b", "b"), ("slide", "a", "b", []),
]

NO_NAILS = [
    None, True, 0, 1, "", "A", "ab", "aa", "a ", " ", "`", "{", "1", "-", "a\n", ["a"], ("a",), {}, {"a": 1}, [],
]

NO_LISTS = [None, True, False, 0, 1, "", "turn", "turn a", (), ("turn", "a"), (("turn", "a"),), {}, {"turn": "a"}, 1.5,
            {0: ("turn", "a")}]


def no_moves():
    spoiled = [("turn", thing) for thing in NO_NAILS]
    for thing in NO_NAILS:
        spoiled += [("change", thing, "b"), ("change", "a", thing), ("change", thing, thing)]
        spoiled += [("slide", thing, "b", 1), ("slide", "a", thing, 1), ("slide", thing, thing, 0)]
    return NO_MOVES + spoiled


def plain_turns(cord):
    """The cord turn by turn: each a tuple (nail, 1 or -1)."""
    return [(nail, 1 if turns > 0 else -1) for nail, turns in cord for _ in range(abs(turns))]


def plain_short(turns):
    """Turns beside their contraries are taken away, and what is left is put together."""
    left = []
    for nail, way in turns:
        if left and left[-1] == (nail, -way):
            left.pop()
        else:
            left.append((nail, way))
    runs = []
    for nail, way in left:
        if runs and runs[-1][0] == nail:
            runs[-1] = (nail, runs[-1][1] + way)
        else:
            runs.append((nail, way))
    return runs


def plain_turn_moved(turn, move):
    nail, way = turn
    if move[0] == "turn":
        return [(nail, -way)] if nail == move[1] else [turn]
    if move[0] == "change":
        return [({move[1]: move[2], move[2]: move[1]}.get(nail, nail), way)]
    if nail != move[1]:
        return [turn]
    along = plain_turns([(move[2], move[3])])
    return [turn] + along if way == 1 else samples.turned_back(along) + [turn]


def plain_moved(cord, moves):
    turns = plain_turns(cord)
    for move in moves:
        turns = [new for turn in turns for new in plain_turn_moved(turn, move)]
    return plain_short(turns)


def random_move(chance, nails="abc", most=3):
    one, other = chance.sample(nails, 2)
    return chance.choice([("turn", one), ("change", one, other), ("slide", one, other, chance.randint(-most, most)),
                          ("slide", one, other, chance.randint(-most, most))])


def some_moves(seed, number, most):
    chance = random.Random(seed)
    return [[random_move(chance) for _ in range(chance.randint(0, most))] for _ in range(number)]


class PlainMovesTest(unittest.TestCase):
    def test_turn(self):
        for cord, nail, told in [
            ([], "a", []),
            ([("a", 1)], "a", [("a", -1)]),
            ([("a", -LONG), ("b", 2)], "a", [("a", LONG), ("b", 2)]),
            ([("a", 1)], "b", [("a", 1)]),
            ([("a", 1), ("b", 1), ("a", -3)], "a", [("a", -1), ("b", 1), ("a", 3)]),
            ([("a", 1), ("a", 1), ("b", 0)], "a", [("a", -2)]),
        ]:
            self.assertEqual(moved(cord, [("turn", nail)]), told)

    def test_change(self):
        for cord, one, other, told in [
            ([], "a", "b", []),
            ([("a", 1)], "a", "b", [("b", 1)]),
            ([("b", 1)], "a", "b", [("a", 1)]),
            ([("a", 1), ("b", 2), ("c", 3)], "a", "b", [("b", 1), ("a", 2), ("c", 3)]),
            ([("a", 1), ("b", 2), ("c", 3)], "c", "a", [("c", 1), ("b", 2), ("a", 3)]),
            ([("a", LONG)], "z", "a", [("z", LONG)]),
            ([("a", 1), ("a", -1)], "a", "b", []),
        ]:
            self.assertEqual(moved(cord, [("change", one, other)]), told)

    def test_slide(self):
        for cord, times, told in [
            ([], 1, []),
            ([("a", 1)], 1, [("a", 1), ("b", 1)]),
            ([("a", 1)], -2, [("a", 1), ("b", -2)]),
            ([("a", -1)], 1, [("b", -1), ("a", -1)]),
            ([("a", -1)], -2, [("b", 2), ("a", -1)]),
            ([("a", 2)], 3, [("a", 1), ("b", 3), ("a", 1), ("b", 3)]),
            ([("a", -2)], 3, [("b", -3), ("a", -1), ("b", -3), ("a", -1)]),
            ([("a", 1), ("b", -1)], 1, [("a", 1)]),
            ([("a", 1), ("b", 1), ("a", -1), ("b", -1)], 2, [("a", 1), ("b", 1), ("a", -1), ("b", -1)]),
            ([("b", 5), ("c", 1)], 1, [("b", 5), ("c", 1)]),
            ([("a", 1)], LONG, [("a", 1), ("b", LONG)]),
            ([("a", -1)], LONG, [("b", -LONG), ("a", -1)]),
            ([("a", 1), ("b", LONG)], -LONG, [("a", 1)]),
            ([("a", 5), ("b", 1)], 0, [("a", 5), ("b", 1)]),
            ([("a", 1), ("a", -1)], 7, []),
        ]:
            with self.subTest(cord=cord, times=times):
                self.assertEqual(moved(cord, [("slide", "a", "b", times)]), told)

    def test_no_moves(self):
        for cord in samples.some_cords():
            self.assertEqual(moved(cord, []), short_form(cord))


class MovedTest(unittest.TestCase):
    def test_moves_one_by_one(self):
        chance = random.Random(171)
        for cord in samples.short_cords(172, 400, 9):
            move = random_move(chance)
            told = moved(cord, [move])
            self.assertIs(type(told), list)
            self.assertEqual(told, plain_moved(cord, [move]), (cord, move))

    def test_moves_one_after_the_other(self):
        for cord, moves in zip(samples.short_cords(173, 200, 6), some_moves(174, 200, 5)):
            told = moved(cord, moves)
            self.assertEqual(told, plain_moved(cord, moves), (cord, moves))
            for place in range(len(moves) + 1):
                self.assertEqual(moved(moved(cord, moves[:place]), moves[place:]), told)

    def test_told_in_short_form(self):
        for cord, moves in zip(samples.short_cords(175, 100, 8), some_moves(176, 100, 3)):
            told = moved(cord, moves)
            self.assertEqual(short_form(told), told)

    def test_cords_that_are_one_stay_one(self):
        chance = random.Random(177)
        cords = samples.short_cords(178, 120, 6)
        for cord, other, moves in zip(cords, cords[1:], some_moves(179, 119, 4)):
            changed = samples.much_changed(chance, cord, 3)
            self.assertEqual(moved(changed, moves), moved(cord, moves))
            self.assertIs(are_one(moved(cord, moves), moved(other, moves)), are_one(cord, other))

    def test_great_turns(self):
        for nail, turns in (("a", LONG), ("a", -LONG), ("b", LONG)):
            cord = [("c", 1), (nail, turns), ("c", 2)]
            self.assertEqual(moved(cord, [("slide", "c", nail, 1)])[0], ("c", 1))
            self.assertEqual(moved(cord, [("turn", nail)]), [("c", 1), (nail, -turns), ("c", 2)])
            self.assertEqual(moved(cord, [("change", nail, "c")]), [(nail, 1), ("c", turns), (nail, 2)])
            self.assertEqual(moved(cord, [("slide", nail, "c", 0)]), cord)
        self.assertEqual(moved([("c", 1), ("a", LONG)], [("slide", "c", "a", -LONG)]), [("c", 1)])


class BackMovesTest(unittest.TestCase):
    def test_plain_moves(self):
        for moves, told in [
            ([], []),
            ([("turn", "a")], [("turn", "a")]),
            ([("change", "a", "b")], [("change", "a", "b")]),
            ([("slide", "a", "b", 3)], [("slide", "a", "b", -3)]),
            ([("slide", "a", "b", -LONG)], [("slide", "a", "b", LONG)]),
            ([("slide", "b", "a", 0)], [("slide", "b", "a", 0)]),
            ([("turn", "a"), ("slide", "a", "b", 1), ("change", "c", "b")],
             [("change", "c", "b"), ("slide", "a", "b", -1), ("turn", "a")]),
        ]:
            self.assertEqual(back_moves(moves), told)
            self.assertIs(type(back_moves(moves)), list)

    def test_there_and_back(self):
        for cord, moves in zip(samples.short_cords(181, 200, 6), some_moves(182, 200, 5)):
            self.assertEqual(moved(moved(cord, moves), back_moves(moves)), short_form(cord))
            self.assertEqual(moved(cord, moves + back_moves(moves)), short_form(cord))
            self.assertEqual(moved(cord, back_moves(moves) + moves), short_form(cord))

    def test_the_moves_back_of_the_moves_back(self):
        for moves in some_moves(183, 100, 8):
            self.assertEqual(back_moves(back_moves(moves)), moves)

    def test_moves_that_would_be_too_long_have_moves_back(self):
        moves = [("slide", "a", "b", LONG)] * 30
        self.assertEqual(back_moves(moves), [("slide", "a", "b", -LONG)] * 30)


class NoMoveTest(unittest.TestCase):
    def test_what_is_no_move(self):
        for thing in no_moves():
            with self.subTest(thing=thing):
                for moves in ([thing], [("turn", "a"), thing], [thing, ("turn", "a")]):
                    self.assertIs(samples.refusal_of(moved, [("a", 1)], moves), NoMove)
                    self.assertIs(samples.refusal_of(moved, [], moves), NoMove)
                    self.assertIs(samples.refusal_of(back_moves, moves), NoMove)

    def test_behind_and_ahead_of_a_move_that_would_be_too_long(self):
        cord = [("a", 2001)]
        long = ("slide", "a", "b", 1)
        self.assertIs(samples.refusal_of(moved, cord, [long]), TooLong)
        for thing in no_moves():
            for moves in ([long, thing], [thing, long], [long, ("turn", "a"), thing]):
                self.assertIs(samples.refusal_of(moved, cord, moves), NoMove)

    def test_what_is_no_list_of_moves(self):
        for thing in NO_LISTS:
            with self.subTest(thing=thing):
                self.assertIs(samples.refusal_of(moved, [("a", 1)], thing), NoMove)
                self.assertIs(samples.refusal_of(moved, [("a", 1), ("b", 1)] * 2001, thing), NoMove)
                self.assertIs(samples.refusal_of(back_moves, thing), NoMove)


class TooLongTest(unittest.TestCase):
    def check_sum(self, cord, move, pieces):
        with self.subTest(pieces=pieces, move=move):
            if pieces > 4000:
                self.assertIs(samples.refusal_of(moved, cord, [move]), TooLong)
            else:
                self.assertIsNone(samples.refusal_of(moved, cord, [move]))

    def test_slides_at_4000_and_beyond(self):
        for sign in (1, -1):
            for times in (1, -1, 5, LONG, -LONG):
                move = ("slide", "a", "b", times)
                self.check_sum([("a", sign * 2000)], move, 4000)
                self.check_sum([("a", sign * 2001)], move, 4002)
                self.check_sum([("a", sign * 2000), ("b", 1)], move, 4001)
                self.check_sum([("b", LONG), ("a", sign * 1999), ("c", -LONG)], move, 4000)
                self.check_sum([("b", 1), ("a", sign * 1999), ("c", -LONG), ("b", 5)], move, 4001)
                self.check_sum([("c", 1), ("a", sign * 1000)] * 1, move, 2001)
                self.check_sum([("a", sign), ("b", 1)] * 1333, move, 3999)
                self.check_sum([("a", sign), ("b", 1)] * 1333 + [("c", 1)], move, 4000)
                self.check_sum([("a", sign), ("b", 1)] * 1333 + [("c", 1), ("d", 1)], move, 4001)
                self.check_sum([("a", sign), ("b", 1)] * 1334, move, 4002)
                self.check_sum([("a", sign * 3), ("b", 1)] * 571, move, 3997)
                self.check_sum([("a", sign * 3), ("b", 1)] * 572, move, 4004)
                self.check_sum([("a", sign * LONG)], move, 2 * LONG)
        self.check_sum([("a", 1000), ("b", 1), ("a", -999)], ("slide", "a", "c", 1), 3999)
        self.check_sum([("a", 1000), ("b", 1), ("a", -1000)], ("slide", "a", "c", 1), 4001)

    def test_turns_of_the_other_nail_count_once(self):
        self.check_sum([("b", LONG), ("a", 1)], ("slide", "a", "b", 1), 3)
        self.check_sum([("b", 4001)], ("slide", "a", "b", 1), 1)
        self.check_sum([("c", LONG), ("b", -LONG)], ("slide", "a", "b", 1), 2)

    def test_just_the_runs_are_counted(self):
        self.check_sum([("a", 3000), ("a", -2999)], ("slide", "a", "b", 1), 2)
        self.check_sum([("a", 1)] * 2000, ("slide", "a", "b", 1), 4000)
        self.check_sum([("a", 1)] * 2001, ("slide", "a", "b", 1), 4002)
        self.check_sum([("a", LONG), ("b", 0), ("a", -LONG)], ("slide", "a", "b", 1), 0)
        self.check_sum([("c", 1), ("c", -1)] * 2000, ("slide", "a", "b", 1), 0)

    def test_what_is_put_together_afterwards_is_no_matter(self):
        cord = [("a", 1), ("b", -1)] * 1334
        self.check_sum(cord, ("slide", "a", "b", 1), 4002)
        cord = [("a", 1), ("b", -1)] * 1333
        self.assertEqual(moved(cord, [("slide", "a", "b", 1)]), [("a", 1333)])

    def test_slides_by_0_turns_and_changes_of_long_cords(self):
        cord = [("a", 2), ("b", LONG)] * 2000
        for move in (("turn", "a"), ("turn", "c"), ("change", "a", "b"), ("change", "a", "c"), ("slide", "a", "b", 0),
                     ("slide", "b", "a", 0), ("slide", "c", "a", 5)):
            self.check_sum(cord, move, 4000)
            self.check_sum(cord[1:], move, 3999)
            self.check_sum(cord + [("a", 1)], move, 4001)
        self.assertEqual(moved(cord, [("slide", "b", "a", 0)]), cord)
        self.assertEqual(moved(cord, [("turn", "b")]), [("a", 2), ("b", -LONG)] * 2000)
        self.assertEqual(moved(cord, [("change", "b", "a")]), [("b", 2), ("a", LONG)] * 2000)
        self.assertEqual(moved([("a", LONG)], [("slide", "a", "b", 0)]), [("a", LONG)])

    def test_no_moves_make_nothing_too_long(self):
        cord = [("a", 2), ("b", LONG)] * 2000
        self.assertEqual(moved(cord, []), cord)
        self.assertEqual(moved([("a", 10 ** 40)], []), [("a", 10 ** 40)])

    def test_at_any_of_the_moves(self):
        slide = ("slide", "a", "b", 1)
        there = ("slide", "b", "a", 1)
        cord = [("a", 1)]
        self.assertEqual(len(moved(cord, [("slide", "a", "b", 1000), ("slide", "b", "a", 1)])), 2001)
        self.assertIs(samples.refusal_of(moved, cord, [("slide", "a", "b", 2000), there]), TooLong)
        self.assertIs(samples.refusal_of(moved, cord, [slide, ("slide", "a", "b", 2000), there]), TooLong)
        there_and_back = [("slide", "a", "b", 2000), there, ("slide", "b", "a", -1)]
        self.assertIs(samples.refusal_of(moved, cord, there_and_back), TooLong)
        self.assertIs(samples.refusal_of(moved, [("a", 2001)], [("turn", "b"), ("change", "b", "c"), slide]), TooLong)
        self.assertIsNone(samples.refusal_of(moved, [("a", 2001)], [("change", "a", "b"), slide]))
        self.assertIs(samples.refusal_of(moved, [("b", 2001)], [("change", "a", "b"), slide]), TooLong)
        self.assertIsNone(samples.refusal_of(moved, [("a", 2000)], [slide, ("turn", "a"), ("change", "a", "b")]))
        self.assertIs(samples.refusal_of(moved, [("a", 2000)], [slide, ("slide", "a", "b", -1)]), TooLong)

    def test_many_moves(self):
        cord = [("a", 2), ("b", 3)] * 400
        self.assertEqual(moved(cord, [("turn", "a"), ("change", "a", "b")] * 1000), cord)


class NothingChangesTest(unittest.TestCase):
    def test_nothing_changes(self):
        for cord, moves in zip(samples.short_cords(184, 80, 6), some_moves(185, 80, 4)):
            samples.check_nothing_changes(self, moved, list(cord), list(moves))
            samples.check_nothing_changes(self, back_moves, list(moves))

    def test_no_moves_and_slides_by_0_tell_a_new_list(self):
        for moves in ([], [("slide", "a", "b", 0)], [("turn", "z")]):
            cord = [("a", 1), ("b", 1)]
            samples.check_nothing_changes(self, moved, cord, list(moves))

    def test_what_is_refused_stays_as_it_was(self):
        for moves in ([("slide", "a", "b", 1), ["turn", "a"]], [("slide", "a", "b", 1)]):
            cord = [("a", 2001)]
            kept = repr(moves)
            self.assertIsNotNone(samples.refusal_of(moved, cord, moves))
            self.assertEqual((repr(moves), cord), (kept, [("a", 2001)]))


if __name__ == "__main__":
    unittest.main()
