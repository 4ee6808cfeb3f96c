import copy
import itertools
import random
import unittest

import samples
from nailhang.blocks import blocks_of
from nailhang.cords import is_fall

MANY = samples.THIRTY_FIGURES


def cross(one, other):
    """Whether places a < c < b < d are there, a and b in the one block, c and d in the other."""
    return any(a < c < b < d for a, b in itertools.combinations(one, 2) for c, d in itertools.combinations(other, 2))


def any_cross(blocks):
    return any(cross(one, other) for one, other in itertools.permutations(blocks, 2))


def any_cross_in_long(blocks):
    """The same for many places: a place that comes while a block opened later still waits crosses it."""
    of_place = {place: k for k, block in enumerate(blocks) for place in block}
    within = []
    for place in sorted(of_place):
        number = of_place[place]
        if place == blocks[number][0]:
            within.append(number)
        if within[-1] != number:
            return True
        if place == blocks[number][-1]:
            within.pop()
    return False


def faults_of(cord, blocks, crossing=any_cross):
    """What point 7 asks of a parting and this one has not, as a list of words."""
    if type(blocks) is not list or any(type(block) is not list for block in blocks):
        return ["no list of lists"]
    places = [place for block in blocks for place in block]
    if any(type(place) is not int for place in places) or any(not block for block in blocks):
        return ["no lists of places"]
    faults = []
    if sorted(places) != list(range(len(cord))):
        return ["places"]
    if any(len({cord[place][0] for place in block}) != 1 for block in blocks):
        faults.append("nails")
    if any(sum(cord[place][1] for place in block) != 0 for block in blocks):
        faults.append("turns")
    if any(block != sorted(block) for block in blocks):
        faults.append("rising")
    if [min(block) for block in blocks] != sorted(min(block) for block in blocks):
        faults.append("order")
    if crossing(blocks):
        faults.append("crossing")
    return faults


class FaultsTest(unittest.TestCase):
    """The checker itself, so that it can be trusted with whatever parting is told."""

    def test_all_three_partings_of_the_document_are_right(self):
        cord = [("a", 1), ("a", -1), ("a", 1), ("a", -1)]
        for blocks in ([[0, 1], [2, 3]], [[0, 3], [1, 2]], [[0, 1, 2, 3]]):
            self.assertEqual(faults_of(cord, blocks), [])
            self.assertEqual(faults_of(cord, blocks, any_cross_in_long), [])

    def test_each_fault_is_seen(self):
        cord = [("a", 1), ("b", 1), ("b", -1), ("a", -1)]
        self.assertEqual(faults_of(cord, [[0, 3], [1, 2]]), [])
        self.assertEqual(faults_of(cord, [[1, 2], [0, 3]]), ["order"])
        self.assertEqual(faults_of(cord, [[3, 0], [1, 2]]), ["rising"])
        self.assertEqual(faults_of(cord, [[0, 3]]), ["places"])
        self.assertEqual(faults_of(cord, [[0, 3], [1, 2, 2]]), ["places"])
        self.assertEqual(faults_of(cord, [[0, 1, 2, 3]]), ["nails"])
        self.assertEqual(faults_of(cord, [[0, 3], [1], [2]]), ["turns"])
        self.assertEqual(faults_of(cord, [(0, 3), (1, 2)]), ["no list of lists"])
        self.assertEqual(faults_of(cord, [[0, 3], [1, 2], []]), ["no lists of places"])
        crossing = [("a", 1), ("b", 1), ("a", -1), ("b", -1)]
        self.assertEqual(faults_of(crossing, [[0, 2], [1, 3]]), ["crossing"])
        self.assertEqual(faults_of(crossing, [[0, 2], [1, 3]], any_cross_in_long), ["crossing"])


class FallingTest(unittest.TestCase):
    def test_the_cord_without_pieces(self):
        self.assertEqual(blocks_of([]), [])

    def test_cords_with_one_parting_alone(self):
        for cord, blocks in [
            ([("a", 0)], [[0]]),
            ([("a", 1), ("a", -1)], [[0, 1]]),
            ([("a", 1), ("b", 2), ("b", -2), ("a", -1)], [[0, 3], [1, 2]]),
            ([("a", 1), ("a", 1), ("a", -2)], [[0, 1, 2]]),
            ([("a", 3), ("b", 1), ("b", -1), ("a", -1), ("c", 1), ("c", -1), ("a", -2)], [[0, 3, 6], [1, 2], [4, 5]]),
            ([("a", 1), ("c", 0), ("a", -1)], [[0, 2], [1]]),
            ([("b", 1), ("b", -1), ("a", 5), ("a", -5)], [[0, 1], [2, 3]]),
            ([("a", MANY), ("b", -MANY), ("b", MANY), ("a", -MANY)], [[0, 3], [1, 2]]),
        ]:
            with self.subTest(cord=cord):
                self.assertEqual(blocks_of(cord), blocks)

    def test_whatever_parting_is_told_it_is_right(self):
        for cord in samples.falling_cords():
            with self.subTest(cord=cord):
                self.assertEqual(faults_of(cord, blocks_of(cord)), [])

    def test_every_short_cord_of_two_nails_and_few_turns(self):
        pieces = [("a", -1), ("a", 0), ("a", 1), ("a", 2), ("b", -1), ("b", 1)]
        for length in range(6):
            for chosen in itertools.product(pieces, repeat=length):
                cord = list(chosen)
                blocks = blocks_of(cord)
                if is_fall(cord):
                    self.assertEqual(faults_of(cord, blocks), [], cord)
                else:
                    self.assertIsNone(blocks, cord)

    def test_blocks_of_many_places(self):
        cord = []
        for turns in (4, -1, -1, 3, -5):
            cord += [("a", turns), ("b", 1), ("c", 0), ("b", 1), ("b", -2)]
        blocks = blocks_of(cord)
        self.assertEqual(faults_of(cord, blocks), [])
        self.assertEqual(blocks[0], [0, 5, 10, 15, 20])

    def test_long_cords(self):
        chance = random.Random(13)
        changed = samples.much_changed(chance, samples.long_falling_cord(1000), 600)
        for cord in (samples.long_falling_cord(4000), [("a", 1), ("a", -1)] * 2000, [("a", 0)] * 4000,
                     [("a", 1)] * 3999 + [("a", -3999)], changed):
            self.assertEqual(faults_of(cord, blocks_of(cord), any_cross_in_long), [])


class HangingTest(unittest.TestCase):
    def test_cords_that_hang_have_none(self):
        for cord in (
            [("a", 1)], [("a", 1), ("b", 1), ("a", -1), ("b", -1)], [("a", 1), ("a", -1), ("a", 1)],
            [("a", 1), ("b", 1), ("b", -1)], [("b", 1), ("b", -1), ("a", 1)], [("a", 0), ("b", -1)],
            [("a", 1), ("b", 1), ("a", -1)], [("a", MANY), ("a", 1 - MANY)],
        ):
            with self.subTest(cord=cord):
                self.assertIsNone(blocks_of(cord))

    def test_a_falling_cord_with_one_piece_more_has_none(self):
        chance = random.Random(17)
        for cord in samples.falling_cords():
            place = chance.randint(0, len(cord))
            self.assertIsNone(blocks_of(samples.put_in(cord, place, [(chance.choice("abz"), 2)])))

    def test_none_just_where_the_cord_hangs(self):
        for cord in samples.some_cords():
            self.assertIs(blocks_of(cord) is None, not is_fall(cord))


class NothingChangesTest(unittest.TestCase):
    def test_what_is_handed_in_stays_as_it_was(self):
        for cord in samples.falling_cords() + samples.some_cords():
            kept = copy.deepcopy(cord)
            blocks_of(cord)
            self.assertEqual(cord, kept)

    def test_what_is_told_is_the_askers_own(self):
        for cord in samples.falling_cords():
            told = blocks_of(cord)
            first = copy.deepcopy(told)
            for block in told:
                block.append(-1)
            told.append([99])
            self.assertEqual(blocks_of(cord), first)

    def test_what_is_done_later_to_the_cord_changes_nothing(self):
        cord = [("a", 1), ("b", 0), ("a", -1)]
        told = blocks_of(cord)
        cord.clear()
        self.assertEqual(told, [[0, 2], [1]])


if __name__ == "__main__":
    unittest.main()
