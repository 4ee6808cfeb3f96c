import random
import unittest

import samples
from nailhang.cords import check_cord
from nailhang.errors import TooLong
from nailhang.reading import read
from nailhang.terms import Back, Parts, Piece, Term, Times

LONG = 10 ** 30 - 1


def plain_number(number):
    return "" if number == 1 else str(number)


def random_term(chance, depth):
    """A term, its pieces and its text, told beside it by the plain words of points 30 and 31."""
    kind = chance.choice(["piece", "piece", "parts", "times", "back"]) if depth > 0 else "piece"
    if kind == "piece":
        nail, turns = chance.choice("abcxyz"), samples.random_turns(chance)
        return Piece(nail, turns), [(nail, turns)], nail + plain_number(turns)
    if kind == "parts":
        made = [random_term(chance, depth - 1) for _ in range(chance.randint(0, 3))]
        pieces = [piece for one in made for piece in one[1]]
        return Parts([one[0] for one in made]), pieces, "".join(one[2] for one in made)
    if kind == "times":
        number = chance.randint(-3, 4)
        term, pieces, text = random_term(chance, depth - 1)
        repeated = pieces * number if number >= 0 else samples.turned_back(pieces) * -number
        return Times(term, number), repeated, f"({text}){plain_number(number)}"
    one, other = random_term(chance, depth - 1), random_term(chance, depth - 1)
    pieces = one[1] + other[1] + samples.turned_back(one[1]) + samples.turned_back(other[1])
    return Back(one[0], other[0]), pieces, f"[{one[2]},{other[2]}]"


def random_terms():
    chance = random.Random(151)
    return [random_term(chance, depth) for depth in (0, 1, 2, 3, 4) for _ in range(60)]


def some(number):
    """A term of just so many pieces."""
    return Parts([Piece("ab"[k % 2], 1) for k in range(number)])


class PlainTermsTest(unittest.TestCase):
    def check_term(self, term, pieces, text):
        self.assertIsInstance(term, Term)
        self.assertEqual(term.pieces(), len(pieces))
        self.assertIs(type(term.pieces()), int)
        self.assertEqual(term.cord(), pieces)
        self.assertIs(type(term.cord()), list)
        self.assertIsNone(check_cord(term.cord()))
        self.assertEqual(term.text(), text)

    def test_pieces(self):
        for nail in samples.LETTERS:
            for turns, text in ((1, nail), (0, nail + "0"), (-1, nail + "-1"), (12, nail + "12"),
                                (LONG, nail + "9" * 30), (-LONG, nail + "-" + "9" * 30)):
                self.check_term(Piece(nail, turns), [(nail, turns)], text)

    def test_parts(self):
        self.check_term(Parts([]), [], "")
        self.check_term(Parts([Piece("a", 1)]), [("a", 1)], "a")
        self.check_term(Parts([Piece("a", 1), Piece("a", -1), Piece("b", 0)]), [("a", 1), ("a", -1), ("b", 0)],
                        "aa-1b0")
        self.check_term(Parts([Parts([]), Parts([Piece("z", 2)]), Parts([])]), [("z", 2)], "z2")

    def test_times(self):
        body = Parts([Piece("a", 2), Piece("b", -1)])
        self.check_term(Times(body, 1), [("a", 2), ("b", -1)], "(a2b-1)")
        self.check_term(Times(body, 2), [("a", 2), ("b", -1), ("a", 2), ("b", -1)], "(a2b-1)2")
        self.check_term(Times(body, 0), [], "(a2b-1)0")
        self.check_term(Times(body, -1), [("b", 1), ("a", -2)], "(a2b-1)-1")
        self.check_term(Times(body, -2), [("b", 1), ("a", -2), ("b", 1), ("a", -2)], "(a2b-1)-2")
        self.check_term(Times(Piece("a", 3), 2), [("a", 3), ("a", 3)], "(a3)2")
        self.check_term(Times(Parts([]), 5), [], "()5")

    def test_back(self):
        self.check_term(Back(Piece("a", 1), Piece("b", 1)), [("a", 1), ("b", 1), ("a", -1), ("b", -1)], "[a,b]")
        self.check_term(Back(Parts([]), Piece("b", 2)), [("b", 2), ("b", -2)], "[,b2]")
        self.check_term(Back(Parts([]), Parts([])), [], "[,]")
        one = Parts([Piece("a", 1), Piece("b", 2)])
        self.check_term(Back(one, one), [("a", 1), ("b", 2)] * 2 + [("b", -2), ("a", -1)] * 2, "[ab2,ab2]")

    def test_terms_of_every_kind(self):
        for term, pieces, text in random_terms():
            self.check_term(term, pieces, text)

    def test_the_text_is_read_to_the_same(self):
        for term, pieces, text in random_terms():
            again = read(term.text())
            self.assertIs(type(again), Parts)
            self.check_term(again, pieces, text)

    def test_classes_and_fields(self):
        for made, names in (
            (Piece("a", 5), ["nail", "turns"]), (Parts([]), ["parts"]), (Times(Piece("a", 1), 3), ["body", "number"]),
            (Back(Piece("a", 1), Piece("b", 1)), ["one", "other"]),
        ):
            self.assertIsInstance(made, Term)
            for name in names:
                self.assertTrue(hasattr(made, name))
        piece, other = Piece("q", -7), Piece("r", 2)
        self.assertEqual((piece.nail, piece.turns), ("q", -7))
        self.assertIs(Times(piece, -4).body, piece)
        self.assertEqual(Times(piece, -4).number, -4)
        self.assertIs(Back(piece, other).one, piece)
        self.assertIs(Back(piece, other).other, other)
        told = Parts([piece, other]).parts
        self.assertIs(type(told), list)
        self.assertEqual([part.nail for part in told], ["q", "r"])

    def test_a_term_by_itself_has_no_pieces(self):
        self.check_term(Term(), [], "")


class LengthTest(unittest.TestCase):
    def check_length(self, term, pieces):
        self.assertEqual(term.pieces(), pieces)
        if pieces <= 4000:
            self.assertEqual(len(term.cord()), pieces)
        else:
            self.assertIs(samples.refusal_of(term.cord), TooLong)

    def test_4000_pieces_and_one_more(self):
        for sign in (1, -1):
            self.check_length(Times(Piece("a", 1), sign * 4000), 4000)
            self.check_length(Times(Piece("a", 1), sign * 4001), 4001)
            self.check_length(Times(some(2), sign * 2000), 4000)
            self.check_length(Times(some(2), sign * 2001), 4002)
            self.check_length(Times(Times(some(4), sign * 10), -sign * 100), 4000)
            self.check_length(Parts([Times(Times(some(4), sign * 10), 100), Piece("a", 0)]), 4001)
            self.check_length(Times(Back(some(5), some(5)), sign * 200), 4000)
            self.check_length(Times(Back(some(5), some(5)), sign * 201), 4020)
            self.check_length(Back(Times(some(1), sign * 1999), Piece("a", 0)), 4000)
            self.check_length(Back(Times(some(1), sign * 2000), Piece("a", 0)), 4002)
            self.check_length(Back(Piece("a", 0), Times(some(1), sign * 2000)), 4002)
            self.check_length(Parts([Piece("a", 0), Times(Piece("a", 7), sign * 4000)]), 4001)
            self.check_length(Times(Parts([Times(some(1), sign * 3999), Piece("b", 1)]), sign), 4000)
        self.check_length(some(4000), 4000)
        self.check_length(some(4001), 4001)
        self.check_length(Parts([some(2000), Parts([some(2000)])]), 4000)
        self.check_length(Parts([some(2000), Parts([some(2000), Piece("a", 0)])]), 4001)
        self.check_length(Back(some(1000), some(1000)), 4000)
        self.check_length(Back(some(1000), some(1001)), 4002)

    def test_the_pieces_of_4000(self):
        self.assertEqual(Times(Parts([Piece("a", 3), Piece("b", 1)]), 2000).cord(), [("a", 3), ("b", 1)] * 2000)
        self.assertEqual(Times(Parts([Piece("a", 3), Piece("b", 1)]), -2000).cord(), [("b", -1), ("a", -3)] * 2000)

    def test_far_too_many_pieces_are_told(self):
        for sign in (1, -1):
            self.check_length(Times(Piece("a", 1), sign * LONG), LONG)
            self.check_length(Back(Times(some(2), sign * LONG), Piece("a", 1)), 4 * LONG + 2)
            self.check_length(Times(Times(Piece("a", 1), sign * LONG), LONG), LONG * LONG)
        term, number = Piece("a", 1), 1
        for _ in range(9):
            term, number = Times(Parts([term]), -LONG), number * LONG
            self.check_length(term, number)

    def test_a_term_that_stands_in_itself_many_times(self):
        for leaf, pieces in ((Piece("a", 1), 1), (Parts([]), 0), (Times(Piece("a", 1), 0), 0)):
            term = leaf
            for _ in range(30):
                term, pieces = Back(term, term), pieces * 4
                self.assertEqual(term.pieces(), pieces)
                if pieces == 0:
                    self.assertEqual(term.cord(), [])
                elif pieces > 4000:
                    self.assertIs(samples.refusal_of(term.cord), TooLong)

    def test_a_part_that_stands_0_times_is_no_matter(self):
        long = Times(Piece("a", 1), LONG)
        for term in (
            Times(long, 0), Times(Times(long, LONG), 0), Times(Times(long, 0), LONG), Times(Back(long, long), 0),
            Parts([Times(long, 0), Times(Parts([long, long]), 0)]), Back(Times(long, 0), Parts([])),
            Times(Back(Times(long, 0), Times(some(4001), 0)), -LONG),
        ):
            self.check_length(term, 0)
        self.assertEqual(Parts([Piece("a", 1), Times(long, 0), Piece("b", 1)]).cord(), [("a", 1), ("b", 1)])
        self.check_length(Parts([Times(long, 0), some(4000)]), 4000)
        self.check_length(Parts([Times(long, 0), some(4001)]), 4001)
        self.check_length(Back(Times(long, 0), some(2000)), 4000)

    def test_what_has_no_pieces_has_none_any_number_of_times(self):
        for number in (LONG, -LONG, 4001, -4001, 1, 0):
            for body in (Parts([]), Times(Piece("a", 1), 0), Back(Parts([]), Parts([])), Times(Parts([]), LONG)):
                self.check_length(Times(body, number), 0)
                self.assertEqual(Times(body, number).cord(), [])

    def test_the_texts_of_what_is_too_long(self):
        self.assertEqual(Times(Times(Piece("a", 1), LONG), -LONG).text(), "((a)" + "9" * 30 + ")-" + "9" * 30)
        self.assertEqual(Times(Times(Piece("a", 1), LONG), 0).text(), "((a)" + "9" * 30 + ")0")


class NothingChangesTest(unittest.TestCase):
    def test_a_list_handed_to_parts(self):
        parts = [Piece("a", 1), Piece("b", 2)]
        term = Parts(parts)
        outer = Times(Back(term, Piece("c", 1)), 2)
        self.assertEqual(len(parts), 2)
        before = (outer.pieces(), outer.cord(), outer.text())
        parts.append(Piece("c", 1))
        parts[0] = Times(Piece("a", 1), LONG)
        self.assertEqual((term.pieces(), term.cord(), term.text()), (2, [("a", 1), ("b", 2)], "ab2"))
        self.assertEqual([part.text() for part in term.parts], ["a", "b2"])
        parts.clear()
        self.assertEqual((outer.pieces(), outer.cord(), outer.text()), before)

    def test_the_list_of_the_parts_changed(self):
        term = Parts([Piece("a", 1), Piece("b", 2)])
        term.parts.append(Times(Piece("a", 1), LONG))
        term.parts.reverse()
        self.assertEqual((term.pieces(), term.cord(), term.text()), (2, [("a", 1), ("b", 2)], "ab2"))

    def test_a_cord_told(self):
        for term, pieces, text in random_terms():
            told = term.cord()
            told.append(("z", 5))
            told.reverse()
            self.assertEqual(term.cord(), pieces)
            self.assertEqual(term.pieces(), len(pieces))
            self.assertEqual(term.text(), text)
            kept = term.cord()
            term.cord().clear()
            self.assertEqual(kept, pieces)

    def test_terms_may_be_used_in_many_others(self):
        inner = Parts([Piece("a", 1), Piece("b", 1)])
        for outer in (Times(inner, 2), Back(inner, inner), Parts([inner, inner]), Times(inner, -1)):
            outer.cord().clear()
            self.assertEqual(inner.cord(), [("a", 1), ("b", 1)])
            self.assertEqual(inner.text(), "ab")


if __name__ == "__main__":
    unittest.main()
