"""Terms: cords told by parts, how many pieces they have, and their texts."""

from nailhang.cords import LONGEST, repeated, there_and_back
from nailhang.errors import TooLong


def number_text(number):
    return "" if number == 1 else str(number)


class Term:
    # How many pieces there are is reckoned when a term is made, so that telling it takes
    # no walk through the parts, which may hold one and the same term very many times.
    def __init__(self):
        self.size = 0

    def pieces(self):
        return self.size

    def cord(self):
        if self.size > LONGEST:
            raise TooLong("the cord of a term has at most 4000 pieces")
        # A term without pieces may hold parts that are far too long to be made, 0 times.
        return self.made() if self.size > 0 else []

    def made(self):
        return []

    def text(self):
        return ""


class Piece(Term):
    def __init__(self, nail, turns):
        self.nail = nail
        self.turns = turns
        self.size = 1

    def made(self):
        return [(self.nail, self.turns)]

    def text(self):
        return self.nail + number_text(self.turns)


class Parts(Term):
    # Whoever reads the list of parts may change it; what is told later comes of those kept.
    def __init__(self, parts):
        self.parts = list(parts)
        self.kept = tuple(parts)
        self.size = sum([part.pieces() for part in parts])

    def made(self):
        told = []
        for part in self.kept:
            told.extend(part.cord())
        return told

    def text(self):
        return "".join([part.text() for part in self.kept])


class Times(Term):
    def __init__(self, body, number):
        self.body = body
        self.number = number
        self.size = body.pieces() * abs(number)

    def made(self):
        return repeated(self.body.cord(), self.number)

    def text(self):
        return "(" + self.body.text() + ")" + number_text(self.number)


class Back(Term):
    def __init__(self, one, other):
        self.one = one
        self.other = other
        self.size = 2 * (one.pieces() + other.pieces())

    def made(self):
        return there_and_back(self.one.cord(), self.other.cord())

    def text(self):
        return "[" + self.one.text() + "," + self.other.text() + "]"
