"""Making: cords that fall just by a rule, and the rules of cords."""

from nailhang.cords import is_fall, joined, there_and_back
from nailhang.drawing import set_of
from nailhang.errors import NoNails, NoRule, TooLong
from nailhang.falling import falling_sets
from nailhang.families import meeting_sets
from nailhang.rules import check_rule

MOST_PIECES = 800


def first_half(number):
    return (number + 1) // 2


def halves_round(nails):
    if len(nails) == 1:
        return [(nails, 1)]
    middle = first_half(len(nails))
    return there_and_back(halves_round(nails[:middle]), halves_round(nails[middle:]))


def round_back(nails):
    told = set_of(nails)
    if told == "":
        raise NoNails("a round and back has one nail at least")
    return halves_round(told)


def round_pieces(number):
    if number == 1:
        return 1
    middle = first_half(number)
    return 2 * (round_pieces(middle) + round_pieces(number - middle))


def pieces_needed(rule):
    check_rule(rule)
    return sum([round_pieces(len(nails)) for nails in meeting_sets(rule)])


def cord_of(rule):
    if pieces_needed(rule) > MOST_PIECES:
        raise TooLong("the cord of a rule has at most 800 pieces")
    cord = []
    for nails in meeting_sets(rule):
        cord = joined(cord, halves_round(nails))
    return cord


def rule_of(cord):
    # A cord that falls has no rule, however many nails it has: so this is looked at first.
    if is_fall(cord):
        raise NoRule("a cord that falls has no rule")
    return falling_sets(cord)
