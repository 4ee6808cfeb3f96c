"""Drawing: sets of nails, and cords without them."""

from nailhang.cords import is_fall, is_nail
from nailhang.errors import NoNails


def set_of(nails):
    if not isinstance(nails, str):
        raise NoNails("a set of nails is a text of nails")
    for sign in nails:
        if not is_nail(sign):
            raise NoNails("a nail is a letter from a to z")
    return "".join(sorted(set(nails)))


def nails_of(cord):
    return "".join(sorted(set([nail for nail, turns in cord])))


def without(cord, nails):
    drawn = set_of(nails)
    return [piece for piece in cord if piece[0] not in drawn]


def falls_without(cord, nails):
    return is_fall(without(cord, nails))
