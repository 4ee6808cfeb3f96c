"""What several test files need: things of every kind, cords made by a fixed seed, and plain reckonings."""

import copy
import itertools
import math
import random

from nailhang.errors import HangError

THIRTY_FIGURES = 10 ** 30 - 1
LETTERS = "abcdefghijklmnopqrstuvwxyz"

# No nail, and no cord either: the cord without pieces is left out.
THINGS = [
    None, True, False, 0, 1, -1, 97, 10 ** 40, 1.5, "", " ", "A", "Z", "`", "{", "0", "-", "aa", "ab",
    "a ", " a", "a\n", "\n", "\t", "abc", "\u00e9", "\u0430", (), ("a",), ("a", 1), ("a", "b"), (("a", 1),),
    [None], ["a"], ["a", 1], [["a", 1]], [[("a", 1)]], {}, {"a": 1}, {0: ("a", 1)},
]

SPOILED_PIECES = [
    # no tuple
    None, True, 0, 1, "a", "a1", ["a", 1], {"a": 1}, [], {}, "",
    # another number of parts
    (), ("a",), (1,), ("a", 1, 1), ("a", 1, None), (("a", 1),), ("a", 1, "b", 1),
    # no nail
    (1, 1), (None, 1), (True, 1), ("", 1), ("A", 1), ("`", 1), ("{", 1), ("1", 1), (" ", 1), ("\u00e9", 1),
    (["a"], 1), (("a",), 1), ({"a": 1}, 1), (1, "a"),
    # two letters
    ("ab", 1), ("aa", 1), ("a ", 1), ("a\n", 1),
    # no whole number of turns
    ("a", True), ("a", False), ("a", None), ("a", "1"), ("a", ""), ("a", 1.0), ("a", [1]), ("a", (1,)), ("a", {}),
    ("a", "b"),
]

# No set of nails: what is a text of letters from a to z alone is left out.
NO_SETS = [
    None, True, False, 0, 1, -1, 97, 10 ** 40, 1.5, " ", "A", "Z", "`", "{", "0", "-", "a ", " a", "a\n", "\n", "\t",
    "a b", "aB", "a1", "a,b", "\u00e9", "\u0430", (), ("a",), ("a", "b"), ("a", 1), [], ["a"], ["a", "b"], [None],
    [("a", 1)], {}, {"a": 1}, {"a": True, "b": True},
]

# A rule's nails in any order and more than once are no rule, though they are sets of nails.
NO_RULES = [
    # no list
    None, True, False, 0, 1, -7, 10 ** 40, 1.5, "", "a", "ab", "a b", (), ("a",), ("a", "b"), {}, {"a": "b"},
    {"a": True}, {0: "a"},
    # no sets, a set without nails
    [], [""], ["", "a"], ["a", ""], ["", ""], ["ab", ""],
    # letters twice or out of order
    ["aa"], ["ba"], ["abb"], ["a", "cb"], ["acb"], ["zz"], ["aba"], ["b" * 30],
    # a set twice, sets out of order
    ["a", "a"], ["ab", "ab"], ["a", "bc", "bc"], ["b", "a"], ["bc", "a"], ["ac", "ab"], ["abc", "de"],
    ["a", "bd", "bc"], ["z", "bc", "y"],
    # a set that has another one as a part
    ["a", "ab"], ["ab", "abc"], ["ab", "cd", "acd"], ["b", "abc"], ["a", "bc", "bcd"], ["z", LETTERS],
]


def random_turns(chance):
    return chance.choice([
        0, 1, 1, -1, -1, 2, -2, 3, -3, chance.randint(-9, 9), chance.randint(-THIRTY_FIGURES, THIRTY_FIGURES),
    ])


def random_cord(chance, length, nails):
    return [(chance.choice(nails), random_turns(chance)) for _ in range(length)]


def turned_back(cord):
    return [(nail, -1 * turns) for nail, turns in cord][::-1]


def some_cords():
    """Cords of all lengths up to fourteen, of few nails, so that much is put together."""
    chance = random.Random(20)
    cords = [[], [("a", 0)], [("z", -THIRTY_FIGURES)], [("a", 1)] * 9, [("a", 1), ("b", 1)] * 3]
    for _ in range(400):
        cords.append(random_cord(chance, chance.randint(0, 14), chance.choice(["a", "ab", "abc", "abyz"])))
    return cords


def put_in(cord, place, more):
    return cord[:place] + more + cord[place:]


def changed_cord(chance, cord):
    """One step to a cord that is one with the first: a piece parted, 0 turns or a cord and its contrary put in."""
    way = chance.randint(0, 2)
    place = chance.randint(0, len(cord))
    if way == 0 and place < len(cord):
        nail, turns = cord[place]
        part = random_turns(chance)
        return cord[:place] + [(nail, part), (nail, turns - part)] + cord[place + 1:]
    if way == 1:
        return put_in(cord, place, [(chance.choice("abz"), 0)])
    more = random_cord(chance, chance.randint(1, 3), "abz")
    return put_in(cord, place, more + turned_back(more))


def much_changed(chance, cord, steps):
    for _ in range(steps):
        cord = changed_cord(chance, cord)
    return cord


def falling_cords():
    """Cords that fall, from the one without pieces on, with blocks of many places and pieces of 0 turns."""
    chance = random.Random(7)
    cords = [
        [],
        [("a", 0)],
        [("a", 0), ("a", 0), ("b", 0)],
        [("a", 1), ("a", -1), ("a", 1), ("a", -1)],
        [("a", 1), ("a", 1), ("a", -2)],
        [("a", 2), ("b", 1), ("b", -1), ("a", -1), ("c", 0), ("a", -1)],
        [("a", 1), ("b", 3), ("a", 0), ("b", -3), ("a", -1)],
        [("a", 1), ("a", -1), ("b", 1), ("a", 1), ("a", -1), ("b", -1)],
        [("a", THIRTY_FIGURES), ("b", 1), ("b", -1), ("a", -THIRTY_FIGURES)],
    ]
    for steps in range(1, 13):
        for _ in range(25):
            cords.append(much_changed(chance, [], steps))
    return cords


def long_falling_cord(pieces):
    """A cord of so many pieces (an even number) that falls, but only from its middle on outwards."""
    half = [("abc"[k % 3], k % 7 + 1) for k in range(pieces // 2)]
    return half + turned_back(half)


def short_cords(seed, number, most, nails="abc"):
    """So many cords of at most so many pieces, with few turns, of few nails."""
    chance = random.Random(seed)
    return [
        [(chance.choice(nails), chance.randint(-3, 3)) for _ in range(chance.randint(0, most))] for _ in range(number)
    ]


def random_row(chance, length, nails="abc"):
    return "".join(chance.choice(nails) for _ in range(length))


def random_runs(chance, number, nails="abc", most=3):
    """A cord in short form of just so many runs."""
    runs = []
    while len(runs) < number:
        nail = chance.choice(nails)
        if not runs or runs[-1][0] != nail:
            runs.append((nail, chance.choice([1, -1]) * chance.randint(1, most)))
    return runs


def led(leader, cord):
    return leader + cord + turned_back(leader)


def plain_single(turns, count):
    """n (n - 1) .. (n - k + 1) / (1 * 2 * .. * k), as point 8 writes it."""
    product = math.prod(turns - k for k in range(count))
    whole, rest = divmod(product, math.factorial(count))
    if rest:
        raise ArithmeticError("no whole number")
    return whole


def plain_times(row, cord):
    """How often a row stands in a cord, by all ways to cut it into one part for each piece."""
    if not cord:
        return 1 if row == "" else 0
    nail, turns = cord[0]
    total = 0
    for count in range(len(row) + 1):
        if row[:count] == nail * count:
            total += plain_single(turns, count) * plain_times(row[count:], cord[1:])
    return total


def told_order(sets):
    return sorted(sets, key=lambda nails: (len(nails), nails))


def plain_sets(nails):
    """All sets of these nails, in the told order."""
    letters = sorted(set(nails))
    return ["".join(chosen) for k in range(len(letters) + 1) for chosen in itertools.combinations(letters, k)]


def plain_least(family):
    sets = {"".join(sorted(set(nails))) for nails in family}
    return told_order(one for one in sets if not any(set(other) < set(one) for other in sets))


def no_rules():
    spoiled = [[thing] for thing in NO_SETS] + [["a", thing] for thing in NO_SETS]
    return NO_RULES + spoiled + [[thing, "a"] for thing in NO_SETS] + [["a", "bc", ["b"]], [["a"], ["b"]]]


def rules(seed=121, number=150, nails="abcdefg"):
    """Rules of all kinds with few nails, each made of the least ones of some sets."""
    chance = random.Random(seed)
    found = [["a"], ["g"], ["ab"], ["a", "b"], ["ab", "ac", "bc"], ["a", "bc"], ["abcdefg"], list("abcdefg")]
    while len(found) < number:
        some = "".join(chance.sample(nails, chance.randint(1, len(nails))))
        sizes = chance.choice([(1, 2), (1, 4), (2, 3), (3, 5)])
        sets = [random_row(chance, chance.randint(*sizes), some) for _ in range(chance.randint(1, 7))]
        found.append(plain_least(sets))
    return found


def plain_breaks(rule, nails):
    return any(set(one) <= set(nails) for one in rule)


def refusal_of(ask, *handed):
    """The class of the refusal, or None where there is none; any other error is a fault."""
    try:
        ask(*handed)
    except HangError as refusal:
        if not isinstance(refusal, ValueError):
            raise AssertionError("a refusal that is no ValueError") from refusal
        return type(refusal)
    return None


def spoil(told):
    """Changes all lists and dicts within what was told."""
    if isinstance(told, (list, tuple)):
        for part in told:
            spoil(part)
    if isinstance(told, list):
        told.append("spoiled")
        told.reverse()
    if isinstance(told, dict):
        told.clear()


def check_nothing_changes(test, ask, *handed):
    """Point 2: what is handed in stays, what is told is the asker's own, and what is done later is no matter."""
    kept = copy.deepcopy(handed)
    told = ask(*handed)
    first = copy.deepcopy(told)
    test.assertEqual(handed, kept)
    spoil(told)
    test.assertEqual(handed, kept)
    again = ask(*handed)
    test.assertEqual(again, first)
    spoil(handed)
    test.assertEqual(again, first)
    test.assertEqual(ask(*kept), first)
