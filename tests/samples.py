"""What several test files need: things of every kind, cords made by a fixed seed, and plain reckonings."""

import copy
import math
import random

THIRTY_FIGURES = 10 ** 30 - 1

# No nail, and no cord either: the cord without pieces is left out.
THINGS = [
    None, True, False, 0, 1, -1, 97, 10 ** 40, 1.5, "", " ", "A", "Z", "`", "{", "0", "-", "aa", "ab",
    "a ", " a", "a\n", "\n", "\t", "abc", "\u00e9", "\u0430", (), ("a",), ("a", 1), ("a", "b"), (("a", 1),),
    [None], ["a"], ["a", 1], [["a", 1]], [[("a", 1)]], {}, {"a": 1}, {0: ("a", 1)},
]

SPOILED_PIECES = [
    # no tuple
    None, True, 0, 1, "a", "a1", ["a", 1], {"a": 1}, [], {}, "",
    # another number of parts
    (), ("a",), (1,), ("a", 1, 1), ("a", 1, None), (("a", 1),), ("a", 1, "b", 1),
    # no nail
    (1, 1), (None, 1), (True, 1), ("", 1), ("A", 1), ("`", 1), ("{", 1), ("1", 1), (" ", 1), ("\u00e9", 1),
    (["a"], 1), (("a",), 1), ({"a": 1}, 1), (1, "a"),
    # two letters
    ("ab", 1), ("aa", 1), ("a ", 1), ("a\n", 1),
    # no whole number of turns
    ("a", True), ("a", False), ("a", None), ("a", "1"), ("a", ""), ("a", 1.0), ("a", [1]), ("a", (1,)), ("a", {}),
    ("a", "b"),
]

# No set of nails: what is a text of letters from a to z alone is left out.
NO_SETS = [
    None, True, False, 0, 1, -1, 97, 10 ** 40, 1.5, " ", "A", "Z", "`", "{", "0", "-", "a ", " a", "a\n", "\n", "\t",
    "a b", "aB", "a1", "a,b", "\u00e9", "\u0430", (), ("a",), ("a", "b"), ("a", 1), [], ["a"], ["a", "b"], [None],
    [("a", 1)], {}, {"a": 1}, {"a": True, "b": True},
]


def random_turns(chance):
    return chance.choice([
        0, 1, 1, -1, -1, 2, -2, 3, -3, chance.randint(-9, 9), chance.randint(-THIRTY_FIGURES, THIRTY_FIGURES),
    ])


def random_cord(chance, length, nails):
    return [(chance.choice(nails), random_turns(chance)) for _ in range(length)]


def turned_back(cord):
    return [(nail, -1 * turns) for nail, turns in cord][::-1]


def some_cords():
    """Cords of all lengths up to fourteen, of few nails, so that much is put together."""
    chance = random.Random(20)
    cords = [[], [("a", 0)], [("z", -THIRTY_FIGURES)], [("a", 1)] * 9, [("a", 1), ("b", 1)] * 3]
    for _ in range(400):
        cords.append(random_cord(chance, chance.randint(0, 14), chance.choice(["a", "ab", "abc", "abyz"])))
    return cords


def put_in(cord, place, more):
    return cord[:place] + more + cord[place:]


def changed_cord(chance, cord):
    """One step to a cord that is one with the first: a piece parted, 0 turns or a cord and its contrary put in."""
    way = chance.randint(0, 2)
    place = chance.randint(0, len(cord))
    if way == 0 and place < len(cord):
        nail, turns = cord[place]
        part = random_turns(chance)
        return cord[:place] + [(nail, part), (nail, turns - part)] + cord[place + 1:]
    if way == 1:
        return put_in(cord, place, [(chance.choice("abz"), 0)])
    more = random_cord(chance, chance.randint(1, 3), "abz")
    return put_in(cord, place, more + turned_back(more))


def much_changed(chance, cord, steps):
    for _ in range(steps):
        cord = changed_cord(chance, cord)
    return cord


def falling_cords():
    """Cords that fall, from the one without pieces on, with blocks of many places and pieces of 0 turns."""
    chance = random.Random(7)
    cords = [
        [],
        [("a", 0)],
        [("a", 0), ("a", 0), ("b", 0)],
        [("a", 1), ("a", -1), ("a", 1), ("a", -1)],
        [("a", 1), ("a", 1), ("a", -2)],
        [("a", 2), ("b", 1), ("b", -1), ("a", -1), ("c", 0), ("a", -1)],
        [("a", 1), ("b", 3), ("a", 0), ("b", -3), ("a", -1)],
        [("a", 1), ("a", -1), ("b", 1), ("a", 1), ("a", -1), ("b", -1)],
        [("a", THIRTY_FIGURES), ("b", 1), ("b", -1), ("a", -THIRTY_FIGURES)],
    ]
    for steps in range(1, 13):
        for _ in range(25):
            cords.append(much_changed(chance, [], steps))
    return cords


def long_falling_cord(pieces):
    """A cord of so many pieces (an even number) that falls, but only from its middle on outwards."""
    half = [("abc"[k % 3], k % 7 + 1) for k in range(pieces // 2)]
    return half + turned_back(half)


def short_cords(seed, number, most, nails="abc"):
    """So many cords of at most so many pieces, with few turns, of few nails."""
    chance = random.Random(seed)
    return [
        [(chance.choice(nails), chance.randint(-3, 3)) for _ in range(chance.randint(0, most))] for _ in range(number)
    ]


def random_row(chance, length, nails="abc"):
    return "".join(chance.choice(nails) for _ in range(length))


def random_runs(chance, number, nails="abc", most=3):
    """A cord in short form of just so many runs."""
    runs = []
    while len(runs) < number:
        nail = chance.choice(nails)
        if not runs or runs[-1][0] != nail:
            runs.append((nail, chance.choice([1, -1]) * chance.randint(1, most)))
    return runs


def led(leader, cord):
    return leader + cord + turned_back(leader)


def plain_single(turns, count):
    """n (n - 1) .. (n - k + 1) / (1 * 2 * .. * k), as point 8 writes it."""
    product = math.prod(turns - k for k in range(count))
    whole, rest = divmod(product, math.factorial(count))
    if rest:
        raise ArithmeticError("no whole number")
    return whole


def plain_times(row, cord):
    """How often a row stands in a cord, by all ways to cut it into one part for each piece."""
    if not cord:
        return 1 if row == "" else 0
    nail, turns = cord[0]
    total = 0
    for count in range(len(row) + 1):
        if row[:count] == nail * count:
            total += plain_single(turns, count) * plain_times(row[count:], cord[1:])
    return total


def spoil(told):
    """Changes all lists and dicts within what was told."""
    if isinstance(told, (list, tuple)):
        for part in told:
            spoil(part)
    if isinstance(told, list):
        told.append("spoiled")
        told.reverse()
    if isinstance(told, dict):
        told.clear()


def check_nothing_changes(test, ask, *handed):
    """Point 2: what is handed in stays, what is told is the asker's own, and what is done later is no matter."""
    kept = copy.deepcopy(handed)
    told = ask(*handed)
    first = copy.deepcopy(told)
    test.assertEqual(handed, kept)
    spoil(told)
    test.assertEqual(handed, kept)
    again = ask(*handed)
    test.assertEqual(again, first)
    spoil(handed)
    test.assertEqual(again, first)
    test.assertEqual(ask(*kept), first)
