"""Families: lists of sets of nails, their least sets and their meeting sets."""

from nailhang.drawing import set_of
from nailhang.errors import TooMany

LETTERS = "abcdefghijklmnopqrstuvwxyz"
MOST_NAILS = 10


def bits_of(nails):
    # One bit for each letter: sets are compared far quicker so than as texts.
    bits = 0
    bit = 1
    for letter in LETTERS:
        if letter in nails:
            bits = bits + bit
        bit = bit * 2
    return bits


def in_told_order(sets):
    return sorted(sets, key=lambda nails: (len(nails), nails))


def has_part_among(bits, parts):
    for part in parts:
        if part & bits == part:
            return True
    return False


def meets_each(bits, others):
    for other in others:
        if other & bits == 0:
            return False
    return True


def least_of(sets):
    # In the told order a set comes behind all its parts, and behind those like it: so only
    # the ones that are kept already can keep it out.
    told = []
    kept = []
    for nails in in_told_order(sets):
        bits = bits_of(nails)
        if not has_part_among(bits, kept):
            kept.append(bits)
            told.append(nails)
    return told


def all_sets(nails):
    sets = [""]
    for nail in nails:
        sets = sets + [chosen + nail for chosen in sets]
    return sets


def check_many(nails):
    if len(nails) > MOST_NAILS:
        raise TooMany("there are at most ten nails in all")


def nails_among(sets):
    return set_of("".join(sets))


def least_sets(family):
    return least_of([set_of(nails) for nails in family])


def meeting_sets(family):
    # The family's things are looked at first: what is no set is refused ahead of too many nails.
    others = [bits_of(nails) for nails in least_sets(family)]
    nails = nails_among(family)
    check_many(nails)
    return least_of([chosen for chosen in all_sets(nails) if meets_each(bits_of(chosen), others)])
