import copy
import unittest

from tests.drawn import holds, rows_near
from tests.drawn_books import BookDrawing
from tests.samples import OMEGA, OMEGA_TWICE, ONE, TWO, ZERO
from vowstair.books import Book
from vowstair.errors import InvalidSentence, TooMany, UnknownName
from vowstair.notation import format_row
from vowstair.sentences import FALSE, TRUE
from vowstair.verdicts import Alike, Parted, Verdict, compare

G, U, V, X, Y = [("name", name) for name in "guvxy"]


def shown(level, sentence, times=1):
    for _ in range(times):
        sentence = ("shown", level, sentence)
    return sentence


# So many slots of level 0.
def slots(many):
    return shown(0, FALSE, many)


class VerdictCase(unittest.TestCase):
    def assert_raises(self, error, call, *values):
        with self.assertRaises(type(error)) as held:
            call(*values)
        self.assertEqual(vars(held.exception), vars(error))


class ClassTest(unittest.TestCase):
    def test_verdict(self):
        for levels, row in ((1, None), (2, None), (3, None), (1, (ZERO,)), (2, (OMEGA, ONE)), (3, (ZERO, ZERO, ZERO))):
            verdict = Verdict(levels, row)
            self.assertEqual((verdict.row, bool(verdict)), (row, row is None))
            self.assertEqual(verdict.told(), f"{levels} levels")

    def test_alike(self):
        for levels in (1, 2, 3):
            verdict = Alike(levels)
            self.assertIsNone(verdict.row)
            self.assertIs(bool(verdict), True)
            self.assertEqual(verdict.told(), f"{levels} levels: alike")

    def test_parted(self):
        for row in ((ZERO,), (ONE,), (OMEGA,), (ZERO, ZERO), (OMEGA_TWICE, ONE), (((OMEGA, 1),), OMEGA, ONE)):
            for first in (True, False):
                verdict = Parted(len(row), row, first)
                self.assertEqual((verdict.row, verdict.first), (row, first))
                self.assertIs(bool(verdict), False)
                word = "first" if first else "second"
                self.assertEqual(verdict.told(), f"{len(row)} levels: {word} at {format_row(row)}")

    def test_texts(self):
        found = [Verdict(2, None).told(), Alike(1).told(), Parted(1, (TWO,), True).told(),
                 Parted(2, (OMEGA, ONE), False).told(), Parted(3, (((OMEGA, 1),), OMEGA, ZERO), True).told()]
        self.assertEqual(found, ["2 levels", "1 levels: alike", "1 levels: first at 2", "2 levels: second at w,1",
                                 "3 levels: first at w^(w),w,0"])

    def test_by_keyword(self):
        self.assertEqual(Verdict(row=None, levels=1).told(), "1 levels")
        self.assertEqual(Alike(levels=1).told(), "1 levels: alike")
        self.assertEqual(Parted(first=True, row=(ONE,), levels=1).told(), "1 levels: first at 1")

    def test_directly_under_verdict(self):
        self.assertEqual((Alike.__bases__, Parted.__bases__), ((Verdict,), (Verdict,)))
        self.assertFalse(hasattr(Alike(1), "first"))
        for kind in (Verdict, Alike, Parted):
            self.assertIn("told", vars(kind))

    def test_attributes_are_those_of_each_object(self):
        one, other = Parted(1, (ONE,), True), Parted(1, (TWO,), False)
        self.assertEqual((one.row, one.first, other.row, other.first), ((ONE,), True, (TWO,), False))


class CompareTest(VerdictCase):
    def book(self):
        return Book(1, [("x", shown(0, X)), ("g", ("not", shown(0, G)))])

    def test_alike(self):
        book = self.book()
        for one, other in ((X, X), (X, TRUE), (G, ("not", shown(0, FALSE))), (shown(0, G), shown(0, FALSE)),
                           (X, shown(0, X)), (("or", G, ("not", G)), X)):
            for verdict in (compare(book, one, other), compare(book, other, one)):
                self.assertIs(type(verdict), Alike)
                self.assertIs(bool(verdict), True)
                self.assertEqual((verdict.row, verdict.told()), (None, "1 levels: alike"))

    def test_parted(self):
        book = self.book()
        for one, other, row in ((X, G, (ZERO,)), (TRUE, FALSE, (ZERO,)), (TRUE, shown(0, FALSE), (ONE,)),
                                (("not", G), FALSE, (ZERO,)), (shown(0, G), slots(2), (ONE,)),
                                (slots(3), slots(5), ((((), 3),),))):
            first, second = compare(book, one, other), compare(book, other, one)
            self.assertEqual([type(first), type(second)], [Parted, Parted])
            self.assertEqual((first.row, second.row, bool(first)), (row, row, False))
            self.assertEqual({first.first, second.first}, {True, False})
            self.assertIs(first.first, book.stands(one, row))

    def test_the_first_ordinal_that_differs_decides(self):
        book = Book.made_of(2, x=shown(1, FALSE), y=shown(0, shown(1, FALSE)))
        verdict = compare(book, X, TRUE)
        self.assertEqual((verdict.row, verdict.told()), ((OMEGA, ONE), "2 levels: second at w,1"))
        verdict = compare(book, Y, TRUE)
        self.assertEqual(verdict.told(), "2 levels: second at w+1,0")
        self.assertEqual(compare(book, Y, X).told(), "2 levels: first at w,1")
        book = Book.made_of(3, x=shown(2, FALSE))
        self.assertEqual(compare(book, TRUE, X).told(), "3 levels: first at w^(w),w,1")

    def test_by_keyword(self):
        verdict = compare(other=FALSE, one=TRUE, book=self.book())
        self.assertEqual((verdict.row, verdict.first), ((ZERO,), True))

    def test_drawn_sentences_against_rows(self):
        drawing = BookDrawing(41)
        alike = parted = 0
        for book in drawing.books(240, most=3, size=9):
            names = book.names()
            one = drawing.sentence(book.levels, names, drawing.randint(1, 9), free=True)
            other = drawing.sentence(book.levels, names, drawing.randint(1, 9), free=True)
            try:
                verdict = compare(book, one, other)
            except TooMany:
                continue
            stairs = [book.meaning(one).stair(), book.meaning(other).stair()]
            self.assertEqual(isinstance(verdict, Alike), stairs[0] == stairs[1])
            differ = [row for row in rows_near(book.levels, stairs) if holds(stairs[0], row) != holds(stairs[1], row)]
            if verdict:
                alike += 1
                self.assertEqual((type(verdict), differ), (Alike, []))
                self.assertEqual(verdict.told(), f"{book.levels} levels: alike")
                continue
            parted += 1
            self.assertEqual((type(verdict), verdict.row), (Parted, min(differ)))
            self.assertIs(verdict.first, holds(stairs[0], verdict.row))
            word = "first" if verdict.first else "second"
            self.assertEqual(verdict.told(), f"{book.levels} levels: {word} at {format_row(verdict.row)}")
        self.assertGreater(alike, 20)
        self.assertGreater(parted, 80)

    def test_nothing_is_changed(self):
        book = self.book()
        kept = copy.deepcopy(book.pairs())
        compare(book, X, G)
        self.assertEqual((book.pairs(), book == self.book()), (kept, True))


class CompareErrorTest(VerdictCase):
    def test_invalid_sentences(self):
        book = Book.made_of(2, x=shown(0, X))
        for value in (None, 0, True, "x", (), [], ("x",), ("shown", 2, TRUE), ("shown", True, TRUE), ["true"],
                      ("not", U[1])):
            self.assert_raises(InvalidSentence(0), compare, book, value, TRUE)
            self.assert_raises(InvalidSentence(1), compare, book, TRUE, value)
            self.assert_raises(InvalidSentence(0), compare, book, value, value)

    def test_unknown_names(self):
        book = Book.made_of(2, x=shown(0, X))
        self.assert_raises(UnknownName("u"), compare, book, ("and", shown(0, U), V), X)
        self.assert_raises(UnknownName("v"), compare, book, X, ("and", shown(0, V), U))
        self.assert_raises(UnknownName("u"), compare, book, ("and", X, U), V)

    def test_too_many_slots(self):
        book = Book.made_of(2, x=slots(4), y=shown(1, Y))
        # Five slots are in the book.
        self.assertIs(type(compare(book, slots(11), TRUE)), Parted)
        self.assertIs(type(compare(book, slots(11), slots(11))), Alike)
        self.assert_raises(TooMany(12), compare, book, slots(12), TRUE)
        self.assert_raises(TooMany(12), compare, book, TRUE, slots(12))
        self.assertIs(type(compare(book, slots(8), shown(1, FALSE, 3))), Parted)
        self.assert_raises(TooMany(12), compare, book, slots(8), shown(1, FALSE, 4))
        self.assert_raises(TooMany(12), compare, book, shown(1, FALSE, 4), slots(8))
        # Each of them alone is not too many.
        book.meaning(slots(8))
        book.meaning(shown(1, FALSE, 4))

    def test_in_this_order(self):
        book = Book.made_of(2, x=slots(4), y=shown(1, Y))
        many = ("and", slots(12), U)
        self.assert_raises(InvalidSentence(0), compare, book, None, None)
        self.assert_raises(InvalidSentence(0), compare, book, ("shown", 2, U), many)
        self.assert_raises(InvalidSentence(1), compare, book, many, ("and", V, 0))
        self.assert_raises(InvalidSentence(1), compare, book, U, ("shown", -1, TRUE))
        self.assert_raises(UnknownName("u"), compare, book, many, V)
        self.assert_raises(UnknownName("v"), compare, book, V, many)
        self.assert_raises(UnknownName("v"), compare, book, slots(12), V)
        self.assert_raises(UnknownName("u"), compare, book, slots(12), many)
        self.assert_raises(TooMany(12), compare, book, slots(12), X)


if __name__ == "__main__":
    unittest.main()
