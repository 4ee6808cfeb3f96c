"""Falling: the least sets of nails without which a cord falls, and those that hold it by themselves."""

from nailhang.drawing import falls_without, nails_of
from nailhang.families import all_sets, check_many, least_of, meeting_sets


def falling_sets(cord):
    nails = nails_of(cord)
    check_many(nails)
    return least_of([chosen for chosen in all_sets(nails) if falls_without(cord, chosen)])


def holding_sets(cord):
    # It hangs with some nails alone just where no falling set is wholly out, so where they meet each one.
    return meeting_sets(falling_sets(cord))
