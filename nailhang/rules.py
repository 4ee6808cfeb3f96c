"""Rules: which sets of nails bring a picture down, and rules put together and turned round."""

from nailhang.cords import is_whole
from nailhang.drawing import set_of
from nailhang.errors import NoNails, NoRule
from nailhang.families import (
    all_sets, bits_of, check_many, has_part_among, in_told_order, least_of, least_sets, meeting_sets, nails_among,
)


def least_or_no_rule(sets):
    try:
        return least_sets(sets)
    except NoNails:
        raise NoRule("a rule's sets are texts of nails") from None


def check_rule(thing):
    if not isinstance(thing, list) or len(thing) == 0:
        raise NoRule("a rule is a list of one set or more")
    if least_or_no_rule(thing) != thing:
        raise NoRule("a rule's sets are least ones, in the told order")
    # The set without nails is a part of all others, so where it is least it is the only one.
    if thing[0] == "":
        raise NoRule("no set of a rule is without nails")


def breaks(rule, nails):
    return has_part_among(bits_of(set_of(nails)), [bits_of(chosen) for chosen in rule])


def both_rules(rule, second):
    nails = nails_among(rule + second)
    check_many(nails)
    first_parts = [bits_of(chosen) for chosen in rule]
    second_parts = [bits_of(chosen) for chosen in second]
    broken = [chosen for chosen in all_sets(nails) if has_part_among(bits_of(chosen), first_parts)]
    return least_of([chosen for chosen in broken if has_part_among(bits_of(chosen), second_parts)])


def either_rule(rule, second):
    check_many(nails_among(rule + second))
    return least_of(rule + second)


def turned_rule(rule):
    return meeting_sets(rule)


def at_least(nails, number):
    told = set_of(nails)
    check_many(told)
    if not is_whole(number) or not 1 <= number <= len(told):
        raise NoRule("the number is a whole one, from 1 to that of the nails")
    return in_told_order([chosen for chosen in all_sets(told) if len(chosen) == number])
