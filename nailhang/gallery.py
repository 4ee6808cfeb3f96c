"""The gallery: pictures kept by names, told rows of words and answering each by a text."""

from nailhang.cords import are_one, contrary, is_nail, joined, short_form
from nailhang.counting import times_in
from nailhang.drawing import falls_without, without
from nailhang.errors import NoLine, NoName, NoNails, NoNumber
from nailhang.falling import falling_sets
from nailhang.making import cord_of
from nailhang.powers import root_of
from nailhang.reading import is_number, read, written
from nailhang.rings import ring_of
from nailhang.rulebook import read_rule
from nailhang.slides import moved
from nailhang.witness import told_apart, why_hangs

LONGEST_NAME = 8


def are_letters(word):
    return word != "" and all([is_nail(sign) for sign in word])


def read_name(word):
    if not are_letters(word) or len(word) > LONGEST_NAME:
        raise NoName("a name has one to eight letters from a to z")
    return word


def read_nails(word):
    # The order, and nails that stand twice, are kept: in a row they matter.
    if word == "-":
        return ""
    if not are_letters(word):
        raise NoNails("nails are one letter from a to z or more, or - for none")
    return word


def read_nail(word):
    if not is_nail(word):
        raise NoNails("a nail is a letter from a to z")
    return word


def read_whole(word):
    if not is_number(word):
        raise NoNumber("a number is 0, or has one to thirty figures, the first of them no 0")
    return int(word)


def cord_by_text(word):
    return read(word).cord()


def cord_by_rule(word):
    return cord_of(read_rule(word))


def yes_or_no(truth):
    return "yes" if truth else "no"


def kept_anew(things):
    return list(things[1])


def joined_two(things):
    return joined(things[1], things[2])


def turned_back(things):
    return contrary(things[0])


def drawn(things):
    return without(things[0], things[1])


def shortened(things):
    return short_form(things[0])


def slid_along(things):
    return moved(things[0], [("slide", things[1], things[2], things[3])])


def changed_names(things):
    return moved(things[0], [("change", things[1], things[2])])


def shown(things):
    return written(things[0])


def pieces_told(things):
    return str(len(things[0]))


def falls_told(things):
    return yes_or_no(falls_without(things[0], things[1]))


def same_told(things):
    return yes_or_no(are_one(things[0], things[1]))


def least_told(things):
    return " ".join([nails if nails != "" else "-" for nails in falling_sets(things[0])])


def why_told(things):
    why = why_hangs(things[0])
    return "falls" if why is None else why[0] + " " + str(why[1])


def apart_told(things):
    apart = told_apart(things[0], things[1])
    return "one" if apart is None else apart[0] + " " + str(apart[1]) + " " + str(apart[2])


def times_told(things):
    return str(times_in(things[1], things[0]))


def ring_told(things):
    return yes_or_no(ring_of(things[0]) == ring_of(things[1]))


def root_told(things):
    found = root_of(things[0])
    return "falls" if found is None else str(found[1]) + " " + written(found[0])


# What the words behind a row's first word are.
ASKED = {
    "hang": ("new", "text"), "make": ("new", "rule"), "copy": ("new", "one"), "join": ("new", "one", "one"),
    "take": ("one",), "turn": ("one",), "draw": ("one", "nails"), "shorten": ("one",),
    "slide": ("one", "nail", "nail", "number"), "change": ("one", "nail", "nail"),
    "show": ("one",), "pieces": ("one",), "falls": ("one", "nails"), "same": ("one", "one"), "least": ("one",),
    "why": ("one",), "apart": ("one", "one"), "times": ("one", "nails"), "ring": ("one", "one"), "root": ("one",),
}

READERS = {
    "new": read_name, "nails": read_nails, "nail": read_nail, "number": read_whole, "text": cord_by_text,
    "rule": cord_by_rule,
}

# The rows by which a cord is kept by the first name, and those by which a text is told.
KEEPING = {
    "hang": kept_anew, "make": kept_anew, "copy": kept_anew, "join": joined_two, "turn": turned_back, "draw": drawn,
    "shorten": shortened, "slide": slid_along, "change": changed_names,
}

TELLING = {
    "show": shown, "pieces": pieces_told, "falls": falls_told, "same": same_told, "least": least_told,
    "why": why_told, "apart": apart_told, "times": times_told, "ring": ring_told, "root": root_told,
}


def words_of(row):
    if not isinstance(row, str):
        raise NoLine("a row is a text")
    words = row.split(" ")
    if words[0] == "make":
        # The words of a rule are read as one text.
        words = row.split(" ", 2)
    if words[0] not in ASKED or len(words) != len(ASKED[words[0]]) + 1:
        raise NoLine("no row has this first word and so many words")
    return words


class Gallery:
    def __init__(self):
        self.pictures = {}

    def picture_by(self, word):
        if word not in self.pictures:
            raise NoName("no picture hangs by this name")
        return self.pictures[word]

    def thing_by(self, asked, word):
        if asked == "one":
            return self.picture_by(word)
        return READERS[asked](word)

    def say(self, row):
        words = words_of(row)
        things = [self.thing_by(asked, word) for asked, word in zip(ASKED[words[0]], words[1:])]
        if words[0] in TELLING:
            return TELLING[words[0]](things)
        if words[0] == "take":
            self.pictures.pop(words[1])
        else:
            self.pictures[words[1]] = KEEPING[words[0]](things)
        return "ok"
