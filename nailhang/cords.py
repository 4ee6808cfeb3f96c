"""Cords: what a cord is, its short form, cords joined and turned to their contraries."""

from nailhang.errors import NoCord

LONGEST = 4000


def is_nail(thing):
    return isinstance(thing, str) and len(thing) == 1 and "a" <= thing <= "z"


def is_whole(thing):
    # Python counts True and False among its ints; here they are no numbers.
    return isinstance(thing, int) and not isinstance(thing, bool)


def is_piece(thing):
    return isinstance(thing, tuple) and len(thing) == 2 and is_nail(thing[0]) and is_whole(thing[1])


def check_cord(thing):
    # The words leave the thing itself out: Python may refuse to write very long numbers.
    if not isinstance(thing, list):
        raise NoCord("a cord is a list of pieces")
    for piece in thing:
        if not is_piece(piece):
            raise NoCord("a piece is a tuple of a nail and a whole number of turns")


def short_form(cord):
    # The runs are a short form after every piece, so a new piece can only meet
    # the last run; where that goes, the run ahead of it is the next one to be met.
    runs = []
    for nail, turns in cord:
        total = turns
        if runs and runs[-1][0] == nail:
            total = runs.pop()[1] + turns
        if total != 0:
            runs.append((nail, total))
    return runs


def is_fall(cord):
    return len(short_form(cord)) == 0


def are_one(one, other):
    return short_form(one) == short_form(other)


def joined(one, other):
    return one + other


def contrary(cord):
    return [(nail, -turns) for nail, turns in reversed(cord)]


def repeated(cord, times):
    return (contrary(cord) if times < 0 else cord) * abs(times)


def there_and_back(one, other):
    return one + other + contrary(one) + contrary(other)
