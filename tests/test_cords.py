import copy
import random
import unittest

import samples
from nailhang.cords import are_one, check_cord, contrary, is_fall, is_nail, joined, short_form
from nailhang.errors import NoCord

LETTERS = "abcdefghijklmnopqrstuvwxyz"
MANY = samples.THIRTY_FIGURES


def put_together_anyhow(chance, cord):
    """The short form by the document's own words, the next deed picked by chance."""
    pieces = list(cord)
    while True:
        deeds = [(k, 1) for k in range(len(pieces)) if pieces[k][1] == 0]
        deeds += [(k, 2) for k in range(len(pieces) - 1) if pieces[k][0] == pieces[k + 1][0]]
        if not deeds:
            return pieces
        k, taken = chance.choice(deeds)
        made = [] if taken == 1 else [(pieces[k][0], pieces[k][1] + pieces[k + 1][1])]
        pieces[k:k + taken] = made


class NailTest(unittest.TestCase):
    def test_each_letter_is_a_nail(self):
        for letter in LETTERS:
            self.assertIs(is_nail(letter), True)

    def test_no_other_sign_is_a_nail(self):
        for number in range(0, 1200):
            if chr(number) not in LETTERS:
                self.assertIs(is_nail(chr(number)), False, number)

    def test_things_of_every_kind_are_no_nails(self):
        for thing in samples.THINGS + [[], LETTERS, "yz", "az", [("a", 1)]]:
            with self.subTest(thing=thing):
                self.assertIs(is_nail(thing), False)


class CheckCordTest(unittest.TestCase):
    def assert_refused(self, thing):
        with self.subTest(thing=thing):
            with self.assertRaises(NoCord) as taken:
                check_cord(thing)
            self.assertIs(type(taken.exception), NoCord)

    def test_cords_are_let_pass(self):
        for cord in samples.some_cords() + samples.falling_cords():
            self.assertIsNone(check_cord(cord))

    def test_the_cord_without_pieces_is_let_pass(self):
        self.assertIsNone(check_cord([]))

    def test_every_nail_and_every_kind_of_turns_is_let_pass(self):
        self.assertIsNone(check_cord([(letter, 1) for letter in LETTERS]))
        self.assertIsNone(check_cord([("a", turns) for turns in (0, 1, -1, MANY, -MANY, 10 ** 300)]))
        self.assertIsNone(check_cord(samples.long_falling_cord(4000)))

    def test_things_of_every_kind_are_refused(self):
        for thing in samples.THINGS:
            self.assert_refused(thing)

    def test_what_is_no_list_is_refused_though_its_pieces_are_right(self):
        for thing in (("a", 1), (("a", 1),), (("a", 1), ("b", 2)), {("a", 1): ("b", 1)}, "a", ()):
            self.assert_refused(thing)

    def test_one_spoiled_piece_is_enough_wherever_it_stands(self):
        right = [("a", 1), ("b", -2), ("c", 0), ("d", MANY)]
        for spoiled in samples.SPOILED_PIECES:
            self.assert_refused([spoiled])
            for place in (0, 2, 4):
                self.assert_refused(samples.put_in(right, place, [spoiled]))

    def test_a_spoiled_piece_far_back_is_found(self):
        self.assert_refused([("a", 1)] * 3999 + [("a", True)])

    def test_numbers_too_long_to_write_are_refused_like_others(self):
        self.assert_refused([("ab", 10 ** 299)])
        with self.assertRaises(NoCord):
            check_cord([(10 ** 6000, 10 ** 6000)])
        with self.assertRaises(NoCord):
            check_cord(10 ** 6000)


class ShortFormTest(unittest.TestCase):
    def test_plain_cords(self):
        for cord, short in [
            ([], []),
            ([("a", 1)], [("a", 1)]),
            ([("a", 0)], []),
            ([("a", 1), ("a", 2)], [("a", 3)]),
            ([("a", 1), ("b", 2)], [("a", 1), ("b", 2)]),
            ([("a", 1), ("b", 0), ("a", 1)], [("a", 2)]),
            ([("a", 1), ("a", 0)], [("a", 1)]),
            ([("a", 0), ("a", -1)], [("a", -1)]),
            ([("a", 1), ("a", -1), ("b", 1)], [("b", 1)]),
            ([("a", 1), ("b", 1), ("a", -1), ("b", -1)], [("a", 1), ("b", 1), ("a", -1), ("b", -1)]),
        ]:
            with self.subTest(cord=cord):
                self.assertEqual(short_form(cord), short)

    def test_putting_together_goes_on_over_several_neighbours(self):
        cord = [("a", 2), ("b", 1), ("c", 3), ("d", 0), ("c", -3), ("b", 1), ("b", -2), ("a", 5), ("e", 1)]
        self.assertEqual(short_form(cord), [("a", 7), ("e", 1)])
        cord = [("z", 1), ("a", 1), ("b", 1), ("c", 1), ("c", -1), ("b", -1), ("a", -1), ("z", 1), ("z", -3)]
        self.assertEqual(short_form(cord), [("z", -1)])

    def test_one_nail_alone(self):
        for turns in ([1, 1, 1], [1, -1], [3, -1, -2], [0, 0], [5, 0, -7], [MANY, MANY, -MANY], [-1, 1, -1]):
            cord = [("q", number) for number in turns]
            total = sum(turns)
            self.assertEqual(short_form(cord), [("q", total)] if total else [])

    def test_turns_of_thirty_figures(self):
        self.assertEqual(short_form([("a", MANY), ("a", MANY)]), [("a", 2 * MANY)])
        self.assertEqual(short_form([("a", MANY), ("a", -MANY + 1)]), [("a", 1)])
        self.assertEqual(short_form([("a", -MANY), ("b", 0), ("a", MANY), ("b", -MANY)]), [("b", -MANY)])

    def test_it_is_the_same_whatever_is_done_first(self):
        chance = random.Random(3)
        for cord in samples.some_cords() + samples.falling_cords():
            told = short_form(cord)
            self.assertEqual(told, put_together_anyhow(chance, cord))
            self.assertEqual(told, put_together_anyhow(chance, cord))

    def test_no_turns_are_nought_and_neighbours_are_unlike(self):
        for cord in samples.some_cords():
            runs = short_form(cord)
            self.assertIs(type(runs), list)
            self.assertTrue(all(type(run) is tuple and len(run) == 2 for run in runs))
            self.assertTrue(all(turns != 0 for nail, turns in runs))
            self.assertTrue(all(runs[k][0] != runs[k + 1][0] for k in range(len(runs) - 1)))

    def test_the_short_form_of_a_short_form_is_itself(self):
        for cord in samples.some_cords():
            runs = short_form(cord)
            self.assertEqual(short_form(runs), runs)

    def test_long_cords(self):
        alike = [("a", 1)] * 4000
        self.assertEqual(short_form(alike), [("a", 4000)])
        unlike = [("a", 1), ("b", -1)] * 2000
        self.assertEqual(short_form(unlike), unlike)
        falling = samples.long_falling_cord(4000)
        self.assertEqual(short_form(falling), [])
        held = samples.put_in(samples.long_falling_cord(3998), 1999, [("z", 1)])
        self.assertEqual(short_form(held), held)
        self.assertEqual(short_form([("a", 0)] * 4000), [])


class FallTest(unittest.TestCase):
    def test_cords_that_fall(self):
        for cord in samples.falling_cords() + [samples.long_falling_cord(3000)]:
            self.assertIs(is_fall(cord), True)

    def test_cords_that_hang(self):
        for cord in (
            [("a", 1)], [("a", -1)], [("a", 1), ("b", 1), ("a", -1), ("b", -1)], [("a", 1), ("b", 0), ("a", 1)],
            [("a", 1), ("b", 1), ("a", -1)], [("a", MANY), ("a", -MANY + 1)], [("a", 1), ("b", -1)],
        ):
            self.assertIs(is_fall(cord), False)

    def test_a_cord_falls_just_where_its_short_form_has_no_runs(self):
        for cord in samples.some_cords():
            self.assertIs(is_fall(cord), short_form(cord) == [])

    def test_a_falling_cord_with_one_piece_more_hangs(self):
        chance = random.Random(11)
        for cord in samples.falling_cords():
            place = chance.randint(0, len(cord))
            self.assertIs(is_fall(samples.put_in(cord, place, [("b", 1)])), False)


class OneTest(unittest.TestCase):
    def test_changed_cords_are_one_with_the_first(self):
        chance = random.Random(5)
        for cord in samples.some_cords():
            changed = samples.much_changed(chance, cord, chance.randint(1, 8))
            self.assertIs(are_one(cord, changed), True)
            self.assertIs(are_one(changed, cord), True)
            self.assertIs(are_one(cord, cord), True)

    def test_with_one_piece_more_they_are_not(self):
        chance = random.Random(6)
        for cord in samples.some_cords():
            changed = samples.much_changed(chance, cord, chance.randint(0, 5))
            turns = chance.choice([1, -1, 2, MANY, -MANY])
            more = samples.put_in(changed, chance.randint(0, len(changed)), [(chance.choice("abcz"), turns)])
            self.assertIs(are_one(cord, more), False)
            self.assertIs(are_one(more, cord), False)

    def test_cords_that_are_nearly_alike_are_not_one(self):
        one = [("a", 1), ("b", 2)]
        for other in (
            [("b", 2), ("a", 1)], [("a", 1)], [("b", 2)], [("a", 1), ("b", -2)], [("a", -1), ("b", 2)],
            [("a", 1), ("c", 2)], [("a", 1), ("b", 2), ("a", 1)], [], [("a", 1), ("b", 3)],
        ):
            self.assertIs(are_one(one, other), False)

    def test_cords_are_one_just_where_the_one_and_the_others_contrary_fall(self):
        cords = samples.some_cords()[:60]
        for one in cords:
            for other in cords:
                self.assertIs(are_one(one, other), is_fall(joined(one, contrary(other))))


class JoinedTest(unittest.TestCase):
    def test_piece_by_piece_and_nothing_put_together(self):
        one = [("a", 1), ("b", 0), ("b", 2)]
        other = [("b", -2), ("a", MANY)]
        self.assertEqual(joined(one, other), [("a", 1), ("b", 0), ("b", 2), ("b", -2), ("a", MANY)])
        self.assertEqual(joined(other, one), [("b", -2), ("a", MANY), ("a", 1), ("b", 0), ("b", 2)])
        self.assertEqual(joined(one, one), one * 2)

    def test_the_cord_without_pieces(self):
        one = [("a", 1), ("a", 1)]
        self.assertEqual(joined(one, []), one)
        self.assertEqual(joined([], one), one)
        self.assertEqual(joined([], []), [])

    def test_places(self):
        cords = samples.some_cords()
        for one, other in zip(cords, reversed(cords)):
            told = joined(one, other)
            self.assertEqual(len(told), len(one) + len(other))
            for k, piece in enumerate(told):
                self.assertEqual(piece, one[k] if k < len(one) else other[k - len(one)])


class ContraryTest(unittest.TestCase):
    def test_piece_by_piece(self):
        cord = [("a", 1), ("b", 0), ("b", -2), ("c", MANY)]
        self.assertEqual(contrary(cord), [("c", -MANY), ("b", 2), ("b", 0), ("a", -1)])
        self.assertEqual(contrary([("a", 1), ("a", -1)]), [("a", 1), ("a", -1)])
        self.assertEqual(contrary([]), [])
        for cord in samples.some_cords():
            told = contrary(cord)
            self.assertIs(type(told), list)
            self.assertEqual(len(told), len(cord))
            for k, piece in enumerate(told):
                nail, turns = cord[len(cord) - 1 - k]
                self.assertEqual(piece, (nail, turns * -1))

    def test_the_contrary_of_the_contrary(self):
        for cord in samples.some_cords():
            self.assertEqual(contrary(contrary(cord)), cord)

    def test_a_cord_joined_with_its_contrary_falls(self):
        for cord in samples.some_cords():
            self.assertIs(is_fall(joined(cord, contrary(cord))), True)
            self.assertIs(is_fall(joined(contrary(cord), cord)), True)


class NothingChangesTest(unittest.TestCase):
    def test_what_is_handed_in_stays_as_it_was(self):
        cords = samples.some_cords()
        for one, other in zip(cords, reversed(cords)):
            kept = copy.deepcopy((one, other))
            check_cord(one)
            for ask in (short_form, is_fall, contrary):
                ask(one)
            for ask in (joined, are_one):
                ask(one, other)
            self.assertEqual((one, other), kept)

    def test_a_refused_thing_stays_as_it_was(self):
        things = [[("a", 1), ["b", 2]], {"a": [1]}, [[("a", 1)]]]
        kept = copy.deepcopy(things)
        for thing in things:
            with self.assertRaises(NoCord):
                check_cord(thing)
        self.assertEqual(things, kept)

    def test_what_is_told_is_the_askers_own(self):
        for cord in ([], [("a", 1)], [("a", 1), ("b", 2)], [("a", 1), ("a", 1)]):
            for ask in (short_form, contrary, lambda c: joined(c, []), lambda c: joined([], c), lambda c: joined(c, c)):
                kept = list(cord)
                told = ask(cord)
                first = list(told)
                told.append(("z", 9))
                told.reverse()
                self.assertEqual(cord, kept)
                self.assertEqual(ask(cord), first)

    def test_what_is_done_later_to_what_was_handed_in_changes_nothing(self):
        for ask in (short_form, contrary, lambda c: joined(c, []), lambda c: joined([], c)):
            cord = [("a", 1), ("b", 2)]
            told = ask(cord)
            first = list(told)
            cord.append(("c", 3))
            cord[0] = ("d", 4)
            self.assertEqual(told, first)


if __name__ == "__main__":
    unittest.main()
