"""Powers: cords joined with themselves, their roots, cords that change places."""

from nailhang.cords import LONGEST, contrary, joined, repeated, short_form
from nailhang.errors import TooLong
from nailhang.rings import loosened


def power(cord, times):
    runs = short_form(cord)
    if len(runs) < 2:
        # However many times: it stays one run, so nothing gets long.
        return short_form([(nail, turns * times) for nail, turns in runs])
    if abs(times) * len(runs) > LONGEST:
        raise TooLong("a power has at most 4000 runs side by side")
    return short_form(repeated(runs, times))


def part_length(runs):
    # The length of the shortest beginning that, told again and again, is the whole list.
    length = 1
    while len(runs) % length != 0 or runs[:length] * (len(runs) // length) != runs:
        length = length + 1
    return length


def inner_root(inner):
    if len(inner) == 1:
        nail = inner[0][0]
        turns = inner[0][1]
        return ([(nail, 1 if turns > 0 else -1)], abs(turns))
    # Powers of an inner one with unlike ends are its runs told again and again: nothing is put together.
    length = part_length(inner)
    return (inner[:length], len(inner) // length)


def root_of(cord):
    loose = loosened(cord)
    outer = loose[0]
    if not loose[1]:
        return None
    found = inner_root(loose[1])
    return (short_form(joined(joined(outer, found[0]), contrary(outer))), found[1])


def common_root(one, other):
    first = root_of(one)
    second = root_of(other)
    if first is None and second is None:
        return ([], 0, 0)
    if first is None:
        return (second[0], 0, second[1])
    if second is None:
        return (first[0], first[1], 0)
    if first[0] == second[0]:
        return (first[0], first[1], second[1])
    if first[0] == contrary(second[0]):
        return (first[0], first[1], -second[1])
    return None
