import itertools
import random
import unittest

import samples
from nailhang.cords import are_one, is_fall, short_form
from nailhang.errors import HangError, TooLong
from nailhang.powers import common_root, power, root_of
from nailhang.rings import loosened

MANY = samples.THIRTY_FIGURES


def plain_power(cord, times):
    """The words of point 16."""
    return short_form(cord * times if times >= 0 else samples.turned_back(cord) * -times)


def no_powers():
    """Cords in short form that are no power of another one but by 1 (each plainly so), some of them led."""
    chance = random.Random(81)
    cords = [[("a", 1)], [("a", -1)], [("a", 1), ("b", 1)], [("a", 1), ("b", 1), ("a", -1), ("b", -1)],
             [("a", 2), ("b", 2)], [("a", MANY), ("b", 1)], [("a", 1), ("b", 1), ("a", 1), ("b", 2)]]
    for _ in range(60):
        # The one run of the nail z stands just once in the ring, so the ring is nothing told again and again.
        cords.append(samples.random_runs(chance, chance.randint(1, 5), "abc") + [("z", chance.randint(1, 3))])
    led = [short_form(samples.led(samples.random_runs(chance, chance.randint(1, 4), "abz"), cord)) for cord in cords]
    return cords + led


class PowerTest(unittest.TestCase):
    def test_plain_cords(self):
        a, b = ("a", 1), ("b", 1)
        for cord, times, told in [
            ([], 5, []),
            ([], -5, []),
            ([a], 0, []),
            ([a], 3, [("a", 3)]),
            ([a], -3, [("a", -3)]),
            ([("a", -2)], -3, [("a", 6)]),
            ([a, b], 2, [a, b, a, b]),
            ([a, b], -2, [("b", -1), ("a", -1), ("b", -1), ("a", -1)]),
            ([a, b], 1, [a, b]),
            ([a, b], 0, []),
            ([a, b, a], 2, [a, b, ("a", 2), b, a]),
            ([a, b, ("a", -1)], 5, [a, ("b", 5), ("a", -1)]),
            ([a, b, ("a", -1)], -2, [a, ("b", -2), ("a", -1)]),
            ([a, ("b", 0), a, b, ("b", -1)], 2, [("a", 4)]),
        ]:
            with self.subTest(cord=cord, times=times):
                self.assertEqual(power(cord, times), told)

    def test_against_the_plain_words(self):
        for cord in samples.some_cords():
            for times in (-4, -2, -1, 0, 1, 2, 3, 5):
                told = power(cord, times)
                self.assertIs(type(told), list)
                self.assertEqual(told, plain_power(cord, times))

    def test_powers_joined_are_powers_by_the_sum(self):
        for cord in samples.some_cords()[:80]:
            for one, other in itertools.product((-3, -1, 0, 2), repeat=2):
                self.assertTrue(are_one(power(cord, one) + power(cord, other), power(cord, one + other)))
                self.assertEqual(power(power(cord, one), other), power(cord, one * other))

    def test_cords_that_fall(self):
        for cord in samples.falling_cords():
            for times in (0, 1, -1, 4000, 4001, -4001, MANY, -MANY):
                self.assertEqual(power(cord, times), [])

    def test_one_run_by_great_numbers(self):
        for times in (4000, 4001, -4001, MANY, -MANY):
            for turns in (1, -1, 7, MANY, -MANY):
                self.assertEqual(power([("k", turns)], times), [("k", turns * times)])
                self.assertEqual(power([("k", turns), ("b", 1), ("b", -1)], times), [("k", turns * times)])
        self.assertEqual(power([("k", MANY)], 0), [])


class TooLongTest(unittest.TestCase):
    def assert_too_long(self, cord, times):
        with self.assertRaises(HangError) as taken:
            power(cord, times)
        self.assertIs(type(taken.exception), TooLong)

    def test_at_the_bound_and_one_beyond(self):
        chance = random.Random(82)
        for number in (2, 4, 5, 8, 40, 1000, 2000, 4000):
            cord = samples.random_runs(chance, number - 1, "abc") + [("z", 1)]
            most = 4000 // number
            for sign in (1, -1):
                self.assertEqual(len(power(cord, sign * most)), 4000)
                self.assert_too_long(cord, sign * (most + 1))

    def test_just_one_run_beyond(self):
        cord = [("a", 1), ("b", 1)] * 2000 + [("a", 1)]
        self.assert_too_long(cord, 1)
        self.assert_too_long(cord, -1)
        self.assertEqual(power(cord[:-1], 1), cord[:-1])
        self.assertEqual(power(cord[:-1], -1), samples.turned_back(cord[:-1]))

    def test_runs_and_not_pieces_count(self):
        cord = [("a", 1), ("a", 1), ("c", 0), ("c", 5), ("c", -5), ("b", 1), ("b", 1)]
        self.assertEqual(power(cord, 2000), [("a", 2), ("b", 2)] * 2000)
        self.assert_too_long(cord, 2001)
        self.assert_too_long(cord, -2001)

    def test_it_is_no_matter_how_short_the_power_would_be(self):
        cord = [("a", 1), ("b", 1), ("a", -1)]
        for sign in (1, -1):
            self.assertEqual(power(cord, 1333 * sign), [("a", 1), ("b", 1333 * sign), ("a", -1)])
            self.assert_too_long(cord, 1334 * sign)

    def test_very_great_numbers(self):
        for times in (MANY, -MANY, 10 ** 299):
            self.assert_too_long([("a", 1), ("b", 1)], times)

    def test_one_run_or_none_is_never_refused(self):
        for cord in ([], [("a", 0)], [("a", 1)], [("a", 1)] * 4000, samples.long_falling_cord(4000)):
            for times in (4001, -4001, MANY):
                self.assertEqual(power(cord, times), [(nail, turns * times) for nail, turns in short_form(cord)])

    def test_nought_times_is_never_too_long(self):
        self.assertEqual(power([("a", 1), ("b", 1)] * 2000, 0), [])


class RootTest(unittest.TestCase):
    def assert_root(self, cord, root, number):
        told = root_of(cord)
        self.assertIs(type(told), tuple, cord)
        self.assertEqual(told, (root, number), cord)
        self.assertIs(type(told[0]), list)
        self.assertIs(type(told[1]), int)

    def test_none_for_cords_that_fall(self):
        for cord in samples.falling_cords():
            self.assertIsNone(root_of(cord))

    def test_one_run(self):
        for number in (1, 2, 3, 12, MANY):
            self.assert_root([("a", number)], [("a", 1)], number)
            self.assert_root([("a", -number)], [("a", -1)], number)
            self.assert_root([("b", 2), ("a", -number), ("b", -2)], [("b", 2), ("a", -1), ("b", -2)], number)

    def test_plain_cords(self):
        a, b = ("a", 1), ("b", 1)
        for cord, root, number in [
            ([a, b], [a, b], 1),
            ([a, b, a, b], [a, b], 2),
            ([a, b, ("a", 2), b, a], [a, b, a], 2),
            ([("a", 2), ("b", 2)], [("a", 2), ("b", 2)], 1),
            ([a, b, a, ("b", -1)], [a, b, a, ("b", -1)], 1),
            ([a, b, ("a", -1), ("b", -1)] * 3, [a, b, ("a", -1), ("b", -1)], 3),
            ([("b", -1), ("a", -1)] * 4, [("b", -1), ("a", -1)], 4),
            ([a, b] * 6, [a, b], 6),
            ([a, ("a", 1), ("b", 0)], [a], 2),
        ]:
            with self.subTest(cord=cord):
                self.assert_root(cord, root, number)

    def test_cords_that_are_no_power(self):
        for cord in no_powers():
            self.assert_root(cord, cord, 1)

    def test_powers_of_cords_and_of_led_cords(self):
        chance = random.Random(83)
        for cord in no_powers():
            for number in (1, 2, 3, 4, 6, 12):
                self.assert_root(plain_power(cord, number), cord, number)
                self.assert_root(plain_power(cord, -number), samples.turned_back(cord), number)
                changed = samples.much_changed(chance, cord * number, 3)
                self.assert_root(changed, cord, number)

    def test_the_root_of_a_root_is_itself_once(self):
        for cord in samples.some_cords():
            told = root_of(cord)
            if is_fall(cord):
                self.assertIsNone(told)
                continue
            root, number = told
            self.assertGreaterEqual(number, 1)
            self.assertEqual(root, short_form(root))
            self.assert_root(root, root, 1)
            if number <= 100:
                self.assertEqual(plain_power(root, number), short_form(cord))
            else:
                # Only one run, perhaps led, can be so great a power of anything here.
                outer, inner = loosened(root)
                self.assertEqual(len(inner), 1)
                great = samples.led(outer, [(inner[0][0], inner[0][1] * number)])
                self.assertEqual(short_form(great), short_form(cord))

    def test_no_greater_number_would_do(self):
        # Every cord of up to four runs is tried against the powers of all cords of up to four runs.
        pieces = [(nail, turns) for nail in "ab" for turns in (-2, -1, 1, 2)]
        cords = [short_form(chosen) for length in (1, 2, 3, 4) for chosen in itertools.product(pieces, repeat=length)]
        best = {}
        for cord in cords:
            for number in (1, 2, 3, 4):
                made = tuple(plain_power(cord, number))
                best[made] = max(best.get(made, 0), number)
        for cord in cords:
            if cord and max(abs(turns) for nail, turns in cord) < 4:
                self.assertEqual(root_of(cord)[1], best[tuple(cord)], cord)

    def test_long_cords(self):
        self.assert_root([("a", 1), ("b", 1)] * 2000, [("a", 1), ("b", 1)], 2000)
        cord = [("a", 1), ("b", 1)] * 1999 + [("a", 1), ("b", 2)]
        self.assert_root(cord, cord, 1)
        lead = samples.random_runs(random.Random(84), 1900, "abc") + [("y", 1)]
        self.assert_root(samples.led(lead, [("z", MANY)]), samples.led(lead, [("z", 1)]), MANY)


class CommonRootTest(unittest.TestCase):
    def test_powers_of_one_cord(self):
        for cord in no_powers():
            for one, other in itertools.product((-3, -2, -1, 0, 1, 2, 4), repeat=2):
                told = common_root(plain_power(cord, one), plain_power(cord, other))
                if one > 0 or (one == 0 and other > 0):
                    wanted = (cord, one, other)
                elif one == 0 and other == 0:
                    wanted = ([], 0, 0)
                else:
                    wanted = (samples.turned_back(cord), -one, -other)
                self.assertIs(type(told), tuple)
                self.assertEqual(told, wanted)

    def test_both_or_one_of_them_fallen(self):
        for fallen in samples.falling_cords()[:40]:
            self.assertEqual(common_root(fallen, []), ([], 0, 0))
            self.assertEqual(common_root([], fallen), ([], 0, 0))
            for cord, root, number in [([("a", -6)], [("a", -1)], 6), ([("a", 1), ("b", 1)] * 2,
                                                                      [("a", 1), ("b", 1)], 2)]:
                self.assertEqual(common_root(cord, fallen), (root, number, 0))
                self.assertEqual(common_root(fallen, cord), (root, 0, number))

    def test_plain_cords(self):
        a, b = ("a", 1), ("b", 1)
        self.assertEqual(common_root([("a", 4)], [("a", -6)]), ([a], 4, -6))
        self.assertEqual(common_root([("a", -4)], [("a", 6)]), ([("a", -1)], 4, -6))
        self.assertEqual(common_root([("a", MANY)], [("a", 1 - MANY)]), ([a], MANY, 1 - MANY))
        self.assertEqual(common_root([a, b], [("b", -1), ("a", -1)]), ([a, b], 1, -1))
        for one, other in [([a], [b]), ([a, b], [b, a]), ([a, b], [a]), ([a], [b, a, ("b", -1)]),
                           ([a, b] * 2, [b, a] * 2), ([a, b], [a, ("b", -1)])]:
            self.assertIsNone(common_root(one, other))
            self.assertIsNone(common_root(other, one))

    def test_just_where_the_cords_change_places(self):
        cords = samples.short_cords(85, 60, 4, "ab") + no_powers()[:20] + [[("a", 1), ("b", 1)] * 2]
        found = 0
        for one in cords:
            for other in cords:
                told = common_root(one, other)
                if not are_one(one + other, other + one):
                    self.assertIsNone(told)
                    continue
                found += 1
                root, first, second = told
                self.assertEqual(power(root, first), short_form(one))
                self.assertEqual(power(root, second), short_form(other))
                if not is_fall(one):
                    self.assertEqual((root, first), root_of(one))
                    self.assertGreater(first, 0)
                elif not is_fall(other):
                    self.assertEqual(told, (root_of(other)[0], 0, root_of(other)[1]))
        self.assertGreater(found, 300)


class NothingChangesTest(unittest.TestCase):
    def test_nothing_changes(self):
        cords = samples.some_cords()[:50] + no_powers()[:20] + [[], [("a", 1)], [("a", 1), ("b", 1)]]
        for cord in cords:
            for times in (-2, -1, 0, 1, 2):
                samples.check_nothing_changes(self, power, list(cord), times)
            samples.check_nothing_changes(self, root_of, list(cord))
            samples.check_nothing_changes(self, common_root, list(cord), cord * 2)
            samples.check_nothing_changes(self, common_root, list(cord), [])
            samples.check_nothing_changes(self, common_root, [], list(cord))

    def test_what_is_refused_stays_as_it_was(self):
        cord = [("a", 1), ("b", 1)]
        with self.assertRaises(TooLong):
            power(cord, 2001)
        self.assertEqual(cord, [("a", 1), ("b", 1)])


if __name__ == "__main__":
    unittest.main()
