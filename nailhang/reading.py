"""Reading: texts read to terms, and cords written as texts.

What reads a part is told the text and the place at which the part begins; it tells a tuple of
what was read there and the place behind it.
"""

from nailhang.cords import is_nail, short_form
from nailhang.errors import NoText
from nailhang.terms import Back, Parts, Piece, Times

MOST_FIGURES = 30
DEEPEST = 30


def figures_end(text, place):
    end = place
    while end < len(text) and "0" <= text[end] <= "9":
        end = end + 1
    return end


def number_end(text, place):
    # Where no number begins, this is the place itself: a sign of what is none is left there then.
    if text.startswith("0", place):
        return place + 1
    start = place + 1 if text.startswith("-", place) else place
    end = figures_end(text, start)
    if text.startswith("0", start) or not 1 <= end - start <= MOST_FIGURES:
        return place
    return end


def is_number(word):
    return word != "" and number_end(word, 0) == len(word)


def read_number(text, place):
    end = number_end(text, place)
    return (1 if end == place else int(text[place:end]), end)


def behind(sign, text, place):
    if not text.startswith(sign, place):
        raise NoText("a bracket is not closed as it was begun")
    return place + 1


def read_piece(text, place):
    number = read_number(text, place + 1)
    return (Piece(text[place], number[0]), number[1])


def read_times(text, place, depth):
    body = read_parts(text, place + 1, depth + 1)
    number = read_number(text, behind(")", text, body[1]))
    return (Times(body[0], number[0]), number[1])


def read_back(text, place, depth):
    one = read_parts(text, place + 1, depth + 1)
    other = read_parts(text, behind(",", text, one[1]), depth + 1)
    return (Back(one[0], other[0]), behind("]", text, other[1]))


def read_part(text, place, depth):
    if is_nail(text[place]):
        return read_piece(text, place)
    if text[place] == "(":
        return read_times(text, place, depth)
    if text[place] == "[":
        return read_back(text, place, depth)
    raise NoText("a part begins with a letter from a to z or with a bracket")


def read_parts(text, start, depth):
    # The depth is looked at ahead of going on, so that no text leads to very many calls within one another.
    if depth > DEEPEST:
        raise NoText("brackets lie at most thirty deep")
    parts = []
    place = start
    while place < len(text) and text[place] not in "),]":
        part = read_part(text, place, depth)
        parts.append(part[0])
        place = part[1]
    return (Parts(parts), place)


def read(text):
    if not isinstance(text, str):
        raise NoText("a cord is told by a text")
    found = read_parts(text, 0, 0)
    if found[1] < len(text):
        raise NoText("a bracket is closed that was not begun")
    return found[0]


def written(cord):
    return Parts([Piece(nail, turns) for nail, turns in short_form(cord)]).text()
