import random
import unittest

import samples
from nailhang import errors
from nailhang.cords import are_one, contrary, joined, short_form
from nailhang.counting import times_in
from nailhang.drawing import falls_without, without
from nailhang.errors import HangError, NoLine, NoMove, NoName, NoNails, NoNumber, NoRule, NoText, TooLong, TooMany
from nailhang.falling import falling_sets
from nailhang.gallery import Gallery
from nailhang.making import cord_of
from nailhang.powers import root_of
from nailhang.reading import read, written
from nailhang.rings import ring_of
from nailhang.rulebook import read_rule
from nailhang.slides import moved
from nailhang.witness import told_apart, why_hangs

LONG = "9" * 30

# How many words a row has behind its first one; make has two at least.
WORDS = {
    "hang": 2, "copy": 2, "join": 3, "take": 1, "turn": 1, "draw": 2, "shorten": 1, "slide": 4, "change": 3, "show": 1,
    "pieces": 1, "falls": 2, "same": 2, "least": 1, "why": 1, "apart": 2, "times": 2, "ring": 2, "root": 1,
}

NO_NAMES = [
    "", "-", "A", "aB", "abcdefghi", "a1", "1", "x-", "a\n", "\n", "a\t", "\ta", "`", "{", "x.", "abcdefgh!", "_",
]

NO_NAILS = ["", "--", "-a", "a-", "A", "aB", "1", "a1", "a\n", "\n", "\t", "a,b", "`", "{", "[a]"]

ONE_NAIL = NO_NAILS + ["-", "aa", "ab", "abc"]

NO_NUMBERS = [
    "", "-", "a", "00", "01", "-0", "-01", "+1", "--1", "1-", "1a", "a1", "1.5", "1,0", "1" * 31, "-" + "1" * 31, "1\n",
    "\n", "\t1", "0\n", "0x1", "1_0", "one",
]

NO_TEXTS = ["-", "a-", "a00", "a-0", "[a]", "[a,b]2", "(a", "a)", "A", "a\n", "\t", "1", "a,b", "(" * 31 + ")" * 31]


# Rows with a place for a name, by which a picture must hang, or which may be new.
PICTURE_NEEDED = [
    "copy z {}", "copy {} {}", "join z {} y", "join z x {}", "take {}", "turn {}", "draw {} a", "shorten {}",
    "slide {} a b 1", "change {} a b", "show {}", "pieces {}", "falls {} a", "same {} x", "same x {}", "least {}",
    "why {}", "apart {} x", "apart x {}", "times {} a", "ring {} x", "ring x {}", "root {}",
]

NEW_NAMED = ["hang {} a", "make {} a", "copy {} x", "join {} x y"]

# All names that the tests keep pictures by, but for those of long ones.
NAMES = ["x", "y", "none", "abcdefgh", "z", "new"]


def told_all(gallery, *rows):
    return [gallery.say(row) for row in rows]


def with_pictures():
    gallery = Gallery()
    told_all(gallery, "hang x [a,b]", "hang y a2b-3", "hang none ", "hang long (ab)2000", "hang abcdefgh aa-1c0c")
    return gallery


def state_of(gallery, names):
    """All that can be asked of these pictures one by one."""
    told = {}
    for name in names:
        for word in ("show", "pieces", "why", "root"):
            told[word, name] = samples.refusal_of(gallery.say, f"{word} {name}") or gallery.say(f"{word} {name}")
    return told


class RefusalsCase(unittest.TestCase):
    def check_refused(self, gallery, row, kind):
        """It is refused with just this class, and nothing changes."""
        before = state_of(gallery, NAMES)
        with self.subTest(row=row):
            self.assertIs(samples.refusal_of(gallery.say, row), kind)
        self.assertEqual(state_of(gallery, NAMES), before)

    def check_refusals(self, gallery, *rows):
        """Each row is written with the class that is due, as: show X -> NoName."""
        for line in rows:
            row, name = line.split(" -> ")
            self.check_refused(gallery, row, getattr(errors, name))


class RowsCase(unittest.TestCase):
    def check_rows(self, gallery, *rows):
        """Rows told one after the other, each written with its answer, as: show x -> ab."""
        for line in rows:
            row, told = line.split(" -> ")
            answer = gallery.say(row)
            self.assertIs(type(answer), str)
            self.assertEqual(answer, told, row)


class KeepingRowsTest(RowsCase):
    def test_hang(self):
        gallery = Gallery()
        for text, pieces, shown in [
            ("a", 1, "a"), ("", 0, ""), ("a0", 1, ""), ("aa", 2, "a2"), ("[a,b]", 4, "aba-1b-1"),
            ("(ab)-2", 4, "b-1a-1b-1a-1"), ("a" + LONG, 1, "a" + LONG), ("a1", 1, "a"),
            ("((a)" + LONG + ")0b", 1, "b"), ("(ab)2000", 4000, "ab" * 2000),
        ]:
            self.check_rows(gallery, f"hang x {text} -> ok", f"pieces x -> {pieces}", f"show x -> {shown}")

    def test_make(self):
        gallery = Gallery()
        for words in ("a", "ab", "a b", "b a", "a bc", "cb a", "ab ba aabb", "abc a", "ab bc ca", "z y x"):
            cord = cord_of(read_rule(words))
            self.check_rows(gallery, f"make x {words} -> ok", f"pieces x -> {len(cord)}", f"show x -> {written(cord)}",
                            f"least x -> {' '.join(read_rule(words))}")
        self.check_rows(gallery, "make x ab bcd -> ok", "show x -> baca-1c-1ada-1d-1", "least x -> ab bcd")
        self.check_rows(gallery, "make x abcdefghij -> ok", "show x -> abcdefghij")

    def test_copy(self):
        gallery = with_pictures()
        self.check_rows(gallery, "copy z x -> ok", "same z x -> yes", "pieces z -> 4")
        self.check_rows(gallery, "turn x -> ok", "same z x -> no", "show z -> aba-1b-1")
        self.check_rows(gallery, "copy y y -> ok", "show y -> a2b-3", "copy y z -> ok", "show y -> aba-1b-1")
        self.check_rows(gallery, "take z -> ok", "show y -> aba-1b-1")
        self.check_rows(gallery, "copy new abcdefgh -> ok", "pieces new -> 4")

    def test_join(self):
        gallery = with_pictures()
        self.check_rows(gallery, "join z y x -> ok", "show z -> a2b-3aba-1b-1", "pieces z -> 6")
        self.check_rows(gallery, "join z x y -> ok", "show z -> aba-1b-1a2b-3")
        self.check_rows(gallery, "join y y y -> ok", "show y -> a2b-3a2b-3", "pieces y -> 4")
        self.check_rows(gallery, "copy w y -> ok", "turn w -> ok", "join v y w -> ok", "pieces v -> 8", "show v -> ",
                        "why v -> falls")
        self.check_rows(gallery, "join none none none -> ok", "pieces none -> 0")

    def test_take(self):
        gallery = with_pictures()
        self.check_rows(gallery, "take x -> ok")
        self.assertIs(samples.refusal_of(gallery.say, "show x"), NoName)
        self.assertIs(samples.refusal_of(gallery.say, "take x"), NoName)
        self.check_rows(gallery, "show y -> a2b-3", "hang x c -> ok", "show x -> c", "take x -> ok")

    def test_turn(self):
        gallery = with_pictures()
        self.check_rows(gallery, "turn y -> ok", "show y -> b3a-2", "turn y -> ok", "show y -> a2b-3")
        self.check_rows(gallery, "turn abcdefgh -> ok", "pieces abcdefgh -> 4", "show abcdefgh -> c-1")
        self.check_rows(gallery, "turn none -> ok", "pieces none -> 0")

    def test_draw(self):
        gallery = with_pictures()
        self.check_rows(gallery, "draw x - -> ok", "show x -> aba-1b-1", "draw x c -> ok", "show x -> aba-1b-1")
        self.check_rows(gallery, "draw x a -> ok", "show x -> ", "pieces x -> 2")
        self.check_rows(gallery, "draw y bzb -> ok", "show y -> a2", "pieces y -> 1")
        self.check_rows(gallery, "draw long ba -> ok", "pieces long -> 0")

    def test_shorten(self):
        gallery = with_pictures()
        self.check_rows(gallery, "pieces abcdefgh -> 4", "shorten abcdefgh -> ok", "pieces abcdefgh -> 1",
                        "show abcdefgh -> c")
        self.check_rows(gallery, "hang x a0 -> ok", "shorten x -> ok", "pieces x -> 0", "shorten none -> ok")

    def test_slide(self):
        gallery = with_pictures()
        self.check_rows(gallery, "slide y a b 2 -> ok", "show y -> ab2ab-1", "pieces y -> 4")
        self.check_rows(gallery, "slide y a b -2 -> ok", "show y -> a2b-3")
        self.check_rows(gallery, "slide y a b 0 -> ok", "show y -> a2b-3", "slide y c a 5 -> ok", "show y -> a2b-3")
        self.check_rows(gallery, "slide abcdefgh a b 0 -> ok", "pieces abcdefgh -> 1")
        self.check_rows(gallery, "hang x a -> ok", f"slide x a z {LONG} -> ok", f"show x -> az{LONG}")
        self.check_rows(gallery, f"slide x a z -{LONG} -> ok", "show x -> a")
        self.check_rows(gallery, "slide x a b 1 -> ok", "slide x a b 1 -> ok", "show x -> ab2")

    def test_change(self):
        gallery = with_pictures()
        self.check_rows(gallery, "change y a b -> ok", "show y -> b2a-3", "change y c b -> ok", "show y -> c2a-3")
        self.check_rows(gallery, "change abcdefgh x y -> ok", "pieces abcdefgh -> 1")
        self.check_rows(gallery, "change none a b -> ok", "show none -> ")

    def test_a_new_name_by_which_a_picture_stands(self):
        gallery = with_pictures()
        self.check_rows(gallery, "hang x c -> ok", "show x -> c", "make x a -> ok", "show x -> a", "copy x y -> ok",
                        "show x -> a2b-3", "join x x x -> ok", "pieces x -> 4", "show y -> a2b-3")

    def test_names_of_one_to_eight_letters(self):
        gallery = Gallery()
        names = ["zyxwvuts"[:size] for size in range(1, 9)]
        for turns, name in enumerate(names, start=2):
            self.check_rows(gallery, f"hang {name} a{turns} -> ok")
        for turns, name in enumerate(names, start=2):
            self.check_rows(gallery, f"show {name} -> a{turns}")
        for word in WORDS:
            self.check_rows(gallery, f"hang {word} b -> ok", f"show {word} -> b", f"take {word} -> ok")


class TellingRowsTest(RowsCase):
    def test_show_and_pieces(self):
        gallery = with_pictures()
        self.check_rows(gallery, "show x -> aba-1b-1", "pieces x -> 4", "show none -> ", "pieces none -> 0")
        self.check_rows(gallery, "show abcdefgh -> c", "pieces abcdefgh -> 4", "pieces long -> 4000")

    def test_falls(self):
        gallery = with_pictures()
        self.check_rows(gallery, "falls x - -> no", "falls x a -> yes", "falls x b -> yes", "falls x c -> no",
                        "falls x ab -> yes", "falls y a -> no", "falls y ba -> yes", "falls y zabab -> yes")
        self.check_rows(gallery, "falls none - -> yes", "falls none a -> yes", "falls abcdefgh a -> no",
                        "falls abcdefgh c -> yes", "pieces x -> 4")

    def test_same(self):
        gallery = with_pictures()
        self.check_rows(gallery, "hang z aba-1b-1c0 -> ok", "hang w aa-1 -> ok", "same x z -> yes", "same z x -> yes",
                        "same x x -> yes", "same x y -> no", "same w none -> yes", "same none x -> no")

    def test_least(self):
        gallery = with_pictures()
        self.check_rows(gallery, "hang z [a,b]c -> ok", "hang w a(bcdefghij)1 -> ok", "hang v aa-1z0 -> ok")
        self.check_rows(gallery, "least x -> a b", "least y -> ab", "least none -> -", "least z -> ac bc",
                        "least w -> abcdefghij", "least v -> -")

    def test_why(self):
        gallery = with_pictures()
        self.check_rows(gallery, "hang z a3b-1 -> ok", "hang w a0 -> ok", f"hang v a-{LONG} -> ok")
        self.check_rows(gallery, "why x -> abab 1", "why y -> ab -6", "why none -> falls", "why z -> ab -3",
                        "why w -> falls", f"why v -> a -{LONG}")

    def test_apart(self):
        gallery = with_pictures()
        self.check_rows(gallery, "hang z ab -> ok", "hang w ba -> ok", "hang v a0 -> ok", "apart z w -> ba 0 1",
                        "apart w z -> ab 0 1", "apart x x -> one", "apart v none -> one", "apart v w -> a 0 1",
                        "apart z none -> a 1 0")

    def test_times(self):
        gallery = with_pictures()
        self.check_rows(gallery, "times y - -> 1", "times y a -> 2", "times y ab -> -6", "times y ba -> 0",
                        "times y aabb -> 6", "times y aa -> 1", "times y bb -> 6", "times x aba -> -1",
                        "times none - -> 1", "times none a -> 0")

    def test_ring(self):
        gallery = with_pictures()
        self.check_rows(gallery, "hang z b-3a2 -> ok", "hang w c5a2b-3c-5 -> ok", "hang v a-2b3 -> ok",
                        "hang u aa-1 -> ok", "ring y z -> yes", "ring y w -> yes", "ring y v -> no", "ring x x -> yes",
                        "ring none u -> yes", "ring none y -> no")

    def test_root(self):
        gallery = with_pictures()
        self.check_rows(gallery, "hang z (ab-2)3 -> ok", "hang w a-6 -> ok", "hang v c(ab)2c-1 -> ok")
        self.check_rows(gallery, "root x -> 1 aba-1b-1", "root y -> 1 a2b-3", "root none -> falls", "root z -> 3 ab-2",
                        "root w -> 6 a-1", "root v -> 2 cabc-1", "root abcdefgh -> 1 c", "root long -> 2000 ab")


class NoLineTest(RefusalsCase):
    def test_what_is_no_text(self):
        gallery = with_pictures()
        for thing in (None, True, False, 0, 1, -1, 1.5, [], ["show x"], ["show", "x"], (), ("show", "x"), {},
                      {"show": "x"}, 10 ** 40, b"show x"):
            self.check_refused(gallery, thing, NoLine)

    def test_other_first_words(self):
        gallery = with_pictures()
        for row in (
            "", " ", "  ", "shows x", "sho x", "Show x", "SHOW x", "x", "x show", " show x", "show\tx", "show\nx",
            "\nshow x", "show\n x", "tell x", "moved x", "leader x y", "rule x", "- x", "rows x a", "power x 2",
            "set x", "new x a", "hang\tx a", "say x", "pictures x",
        ):
            self.check_refused(gallery, row, NoLine)

    def test_other_numbers_of_words(self):
        gallery = with_pictures()
        for word, number in WORDS.items():
            for count in range(0, 7):
                if count != number:
                    for more in ("x", "", "y", "A", "a"):
                        self.check_refused(gallery, " ".join([word] + [more] * count), NoLine)
        for row in ("make", "make x", "make ", "make -", "hang x a b", "hang x  a", "hang x a ", "show x ", "show  x",
                    "join z x y ", "take x ", "falls x  a", "falls  x a", "slide x a b 1 ", "hang x", "times x a b",
                    "draw x a b"):
            self.check_refused(gallery, row, NoLine)

    def test_a_word_without_signs_is_a_word(self):
        gallery = with_pictures()
        self.check_refusals(
            gallery,
            "show  -> NoName", "make x  -> NoRule", "make  a -> NoName", "make   -> NoName", "falls x  -> NoNails",
            "times x  -> NoNails", "draw x  -> NoNails", "draw  a -> NoName", "slide x a b  -> NoNumber",
            "slide x a  1 -> NoNails", "slide x  b 1 -> NoNails", "slide  a b 1 -> NoName", "change x a  -> NoNails",
            "change x  a -> NoNails", "copy z  -> NoName", "copy  x -> NoName", "same x  -> NoName",
            "same  x -> NoName", "hang  a -> NoName", "join z x  -> NoName", "make x a  -> NoRule",
            "make x  a -> NoRule", "make x a  b -> NoRule", "hang   -> NoName",
        )
        self.assertEqual(told_all(gallery, "hang z ", "show z", "pieces z"), ["ok", "", "0"])


class NoNameTest(RefusalsCase):
    def test_what_is_no_name(self):
        gallery = with_pictures()
        for name in NO_NAMES:
            for row in PICTURE_NEEDED + NEW_NAMED:
                self.check_refused(gallery, row.replace("{}", name), NoName)

    def test_names_by_which_none_hangs(self):
        gallery = with_pictures()
        for name in ("z", "xx", "xy", "n", "abcdefg", "hang", "ok"):
            for row in PICTURE_NEEDED:
                self.check_refused(gallery, row.replace("{}", name), NoName)

    def test_an_empty_gallery(self):
        for row in ("show x", "take x", "copy y x", "join x x x", "why x", "turn x"):
            self.assertIs(samples.refusal_of(Gallery().say, row), NoName)


class OtherRefusalsTest(RefusalsCase):
    def test_no_nails(self):
        gallery = with_pictures()
        for word in NO_NAILS:
            for row in ("draw x {}", "falls x {}", "times x {}"):
                self.check_refused(gallery, row.replace("{}", word), NoNails)
        for word in ONE_NAIL:
            for row in ("slide x {} b 1", "slide x a {} 1", "change x {} b", "change x a {}"):
                self.check_refused(gallery, row.replace("{}", word), NoNails)

    def test_no_number(self):
        gallery = with_pictures()
        for word in NO_NUMBERS:
            self.check_refused(gallery, "slide x a b " + word, NoNumber)

    def test_no_text(self):
        gallery = with_pictures()
        for word in NO_TEXTS:
            self.check_refused(gallery, "hang x " + word, NoText)
            self.check_refused(gallery, "hang new " + word, NoText)

    def test_no_rule(self):
        gallery = with_pictures()
        for words in ("-", "A", "a B", "a -", "- a", "a1", "a,b", "a b\n", "\ta", "a\tb", "", " ", "a ", " a", "a  b"):
            self.check_refused(gallery, "make x " + words, NoRule)
            self.check_refused(gallery, "make new " + words, NoRule)

    def test_the_deed_is_refused(self):
        gallery = with_pictures()
        told_all(gallery, "hang many abcdefghijk", "hang idle aa-1bcdefghijk", "hang turns a2001", "hang more a-2000c")
        self.check_refusals(
            gallery,
            "slide x a a 1 -> NoMove", "slide x z z 0 -> NoMove", "change x a a -> NoMove",
            "slide turns a b 1 -> TooLong", "slide turns a b -1 -> TooLong", "slide more a b 1 -> TooLong",
            "slide long a b 1 -> TooLong", "least many -> TooMany", "least idle -> TooMany",
            "hang x (a)4001 -> TooLong", "hang new (a)-4001 -> TooLong", f"hang x (a){LONG} -> TooLong",
            "make x abcdefghijk -> TooMany", "make new a b c d e f g h i j k -> TooMany",
            "make x ab cd ef gh ij kl -> TooMany",
        )
        fives = " ".join(nails for nails in samples.plain_sets("abcdefghij") if len(nails) == 5)
        self.check_refused(gallery, "make x " + fives, TooLong)
        self.assertEqual(told_all(gallery, "show turns", "pieces many", "slide turns a b 0", "show turns"),
                         ["a2001", "11", "ok", "a2001"])
        self.assertEqual(told_all(gallery, "shorten idle", "least idle"), ["ok", "bcdefghijk"])
        self.assertEqual(told_all(gallery, "hang turns a2000", "slide turns a b 1", "pieces turns")[2], "4000")

    def test_the_first_that_is_due_from_the_left(self):
        gallery = with_pictures()
        told_all(gallery, "hang turns a2001")
        self.check_refusals(
            gallery,
            "hang X A -> NoName", "hang X (a)4001 -> NoName", "hang X a b -> NoLine", "make X A -> NoName",
            "make X abcdefghijk -> NoName", "make x abcdefghijk L -> NoRule", "make x abcdefghijk  -> NoRule",
            "copy X z -> NoName", "draw z A -> NoName", "draw z A b -> NoLine", "falls Z -a -> NoName",
            "falls x -a -> NoNails", "slide z A b x -> NoName", "slide x A b x -> NoNails",
            "slide x a bb x -> NoNails", "slide x a b x -> NoNumber", "slide x a a x -> NoNumber",
            "slide x a a 1 -> NoMove", "slide turns a a 1 -> NoMove", "slide turns a b 00 -> NoNumber",
            "slide turns A b 1 -> NoNails", "slide turns a b 1 -> TooLong", "slide z a a 1 -> NoName",
            "change z a a -> NoName", "change x A A -> NoNails", "change x a A -> NoNails", "change x a a -> NoMove",
            "times z A -> NoName", "times x A -> NoNails", "same z A -> NoName", "apart x A -> NoName",
            "hang x (a)4001) -> NoText", "slide x a b -> NoLine", "slide X A B -> NoLine", "make X -> NoLine",
            "hang X -> NoLine",
        )

    def test_every_refusal_stands_under_hang_error_and_value_error(self):
        gallery = with_pictures()
        for row in (
            None, "show X", "draw x A", "slide x a b x", "hang x A", "make x A", "change x a a", "hang x (a)4001",
            "make x abcdefghijk",
        ):
            with self.assertRaises(ValueError) as taken:
                gallery.say(row)
            self.assertIsInstance(taken.exception, HangError)


class PlainGallery:
    """A gallery told by the functions themselves, for rows that nothing refuses."""

    def __init__(self):
        self.kept = {}

    def say(self, row):
        word, name, *more = row.split(" ")
        cord = self.kept.get(name)
        other = self.kept.get(more[0]) if more else None
        keeping = {
            "hang": lambda: read(more[0]).cord(), "make": lambda: cord_of(read_rule(" ".join(more))),
            "copy": lambda: other, "join": lambda: joined(other, self.kept[more[1]]), "turn": lambda: contrary(cord),
            "draw": lambda: without(cord, more[0].replace("-", "")), "shorten": lambda: short_form(cord),
            "slide": lambda: moved(cord, [("slide", more[0], more[1], int(more[2]))]),
            "change": lambda: moved(cord, [("change", more[0], more[1])]),
        }
        if word in keeping:
            self.kept[name] = keeping[word]()
            return "ok"
        if word == "take":
            del self.kept[name]
            return "ok"
        return self.told(word, cord, other, more)

    def told(self, word, cord, other, more):
        truths = {True: "yes", False: "no"}
        return {
            "show": lambda: written(cord), "pieces": lambda: str(len(cord)),
            "falls": lambda: truths[falls_without(cord, more[0].replace("-", ""))],
            "same": lambda: truths[are_one(cord, other)], "why": lambda: spaced(why_hangs(cord), "falls"),
            "least": lambda: " ".join(nails or "-" for nails in falling_sets(cord)),
            "apart": lambda: spaced(told_apart(cord, other), "one"),
            "times": lambda: str(times_in(more[0].replace("-", ""), cord)),
            "ring": lambda: truths[ring_of(cord) == ring_of(other)], "root": lambda: plain_root(cord),
        }[word]()


def spaced(found, named):
    return named if found is None else " ".join(str(part) for part in found)


def plain_root(cord):
    found = root_of(cord)
    return "falls" if found is None else f"{found[1]} {written(found[0])}"


def random_row(chance, kept):
    """A row that asks for what is there, or that keeps a new picture."""
    texts = ["", "a", "ab", "[a,b]", "[a,bc]", "(ab)2", "c-1(ab-1)-2c", "aa-1", "b0a3", "[[a,b],c]", "(abc)3"]
    if len(kept) < 2 or chance.random() < 0.1:
        return "hang " + chance.choice(["p", "q", "r", "picture"]) + " " + chance.choice(texts)
    one, other = chance.choice(sorted(kept)), chance.choice(sorted(kept))
    nail, second = chance.sample("abc", 2)
    nails = chance.choice(["-", "a", "b", "ca", "abc", "bb", "z"])
    short = sum(abs(turns) for nail, turns in kept[one]) + len(kept[other]) < 60
    rows = [
        f"make {one} {chance.choice(['a', 'b a', 'ab c', 'ab bc ca', 'abc'])}", f"copy {one} {other}", f"turn {one}",
        f"draw {one} {nails}", f"shorten {one}", f"change {one} {nail} {second}", f"show {one}", f"pieces {one}",
        f"falls {one} {nails}", f"same {one} {other}", f"least {one}", f"why {one}", f"apart {one} {other}",
        f"times {one} {chance.choice(['-', 'a', 'ab', 'aa', 'bac', 'abab'])}", f"ring {one} {other}", f"root {one}",
    ]
    if short:
        rows += [f"join r {one} {other}", f"slide {one} {nail} {second} {chance.randint(-2, 2)}"]
    return chance.choice(rows + ([f"take {one}"] if chance.random() < 0.2 else []))


class ManyRowsTest(unittest.TestCase):
    def test_rows_one_after_the_other(self):
        for seed in range(12):
            chance = random.Random(seed)
            gallery, plain = Gallery(), PlainGallery()
            for _ in range(150):
                row = random_row(chance, plain.kept)
                told = gallery.say(row)
                self.assertIs(type(told), str)
                self.assertEqual(told, plain.say(row), row)
            for name, cord in plain.kept.items():
                self.assertEqual(told_all(gallery, "show " + name, "pieces " + name), [written(cord), str(len(cord))])


class NothingChangesTest(unittest.TestCase):
    def test_two_galleries_keep_their_own_pictures(self):
        one, other = Gallery(), Gallery()
        one.say("hang x ab")
        self.assertIs(samples.refusal_of(other.say, "show x"), NoName)
        other.say("hang x c")
        other.say("hang y d")
        self.assertEqual((one.say("show x"), other.say("show x")), ("ab", "c"))
        other.say("take x")
        self.assertEqual(one.say("show x"), "ab")
        self.assertIs(samples.refusal_of(one.say, "show y"), NoName)
        self.assertIs(samples.refusal_of(Gallery().say, "show y"), NoName)

    def test_asking_changes_nothing(self):
        gallery = with_pictures()
        before = state_of(gallery, NAMES)
        for row in (
            "show x", "pieces x", "falls x a", "falls y ab", "same x y", "least x", "why x", "apart x y",
            "times x ab", "ring x y", "root x", "least y", "root long",
        ):
            self.assertEqual(gallery.say(row), gallery.say(row))
        self.assertEqual(state_of(gallery, NAMES), before)

    def test_a_picture_replaced_leaves_the_others(self):
        gallery = with_pictures()
        before = state_of(gallery, ["x", "none", "abcdefgh"])
        for row in (
            "copy z x", "turn z", "draw z a", "shorten z", "copy z x", "slide z a b 3", "change z a c", "join z x x",
            "join z z x", "hang z a", "make z a b", "turn y", "take y", "take z",
        ):
            self.assertEqual(gallery.say(row), "ok")
        self.assertEqual(state_of(gallery, ["x", "none", "abcdefgh"]), before)


if __name__ == "__main__":
    unittest.main()
