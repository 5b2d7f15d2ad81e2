import copy
import unittest

from tests.drawn_books import BookDrawing
from vowstair import plain as plain_file
from vowstair.books import Book
from vowstair.errors import InvalidLimit, InvalidSentence, TooLong, TooMany, UnknownName
from vowstair.evaluation import meaning_of
from vowstair.meanings import Meaning
from vowstair.plain import plain
from vowstair.sentences import FALSE, TRUE, is_sentence, names_in, size_of, slots_in

G, U, X, Y, Z = [("name", name) for name in "guxyz"]


def shown(level, sentence, times=1):
    for _ in range(times):
        sentence = ("shown", level, sentence)
    return sentence


def depth_of(sentence):
    depth, nodes = 0, [sentence]
    while nodes:
        depth += 1
        nodes = [part for node in nodes for part in node[1:] if isinstance(part, tuple)]
    return depth


def steep(drawing, counts):
    """A book whose slots, so many of each level, mostly fall one after another."""
    names, pairs, above = iter("abcdefghijkl"), [], []
    for level in range(len(counts) - 1, -1, -1):
        last, own = FALSE, []
        for _ in range(counts[level]):
            name = next(names)
            pairs.append((name, shown(level, ("or", last, drawing.choice(above)) if above else last)))
            last = ("name", name)
            own.append(last)
        above = own or above
    drawing.shuffle(pairs)
    return Book(len(counts), pairs)


class PlainTest(unittest.TestCase):
    def assert_raises(self, error, call, *values, **named):
        with self.assertRaises(type(error)) as held:
            call(*values, **named)
        self.assertEqual(vars(held.exception), vars(error))

    def assert_plain(self, book, sentence):
        found = plain(book, sentence)
        self.assertTrue(is_sentence(book.levels, found))
        self.assertEqual(names_in(found), [])
        self.assertEqual(meaning_of(book.levels, found), book.meaning(sentence))
        self.assertLessEqual(size_of(found), 20000)
        self.assertLessEqual(depth_of(found), 500)
        self.assertEqual(plain(book, sentence), found)
        return found

    def test_most(self):
        self.assertEqual(plain_file.MAX_PLAIN, 20000)

    def test_what_stands_everywhere_and_nowhere(self):
        for levels in (1, 2, 3):
            book = Book.made_of(levels, x=shown(0, X), y=("not", shown(0, X)))
            self.assertEqual(meaning_of(levels, self.assert_plain(book, X)), Meaning.always(levels))
            self.assertEqual(meaning_of(levels, self.assert_plain(book, Y)), Meaning.never(levels))
            for sentence in (TRUE, FALSE, ("or", X, FALSE), ("and", X, Y)):
                self.assert_plain(book, sentence)
                self.assert_plain(Book.empty(levels), TRUE)

    def test_sentences_that_speak_of_themselves(self):
        for levels in (1, 2, 3):
            for level in range(levels):
                no = ("then", shown(level, Y), FALSE)
                book = Book.made_of(levels, g=("not", shown(level, G)), x=shown(level, ("not", X)), y=no)
                for name in (G, X, Y, ("and", G, ("not", shown(0, X)))):
                    self.assert_plain(book, name)

    def test_drawn_books(self):
        for book in BookDrawing(1).books(240, most=5, size=16):
            for name in book.names():
                self.assert_plain(book, ("name", name))

    def test_drawn_sentences_with_further_slots(self):
        drawing = BookDrawing(2)
        asked = 0
        for book in drawing.books(240):
            sentence = drawing.sentence(book.levels, book.names(), drawing.randint(2, 14), free=True)
            try:
                book.meaning(sentence)
            except TooMany:
                continue
            asked += 1
            self.assert_plain(book, sentence)
        self.assertGreater(asked, 150)

    def test_four_slots_at_one_to_three_levels(self):
        drawing = BookDrawing(3)
        shapes = [(4,), (3,), (1,), (4, 0), (3, 1), (2, 2), (1, 3), (0, 4), (2, 1), (4, 0, 0), (0, 4, 0), (0, 0, 4)]
        shapes += [(2, 1, 1), (1, 2, 1), (1, 1, 2), (2, 2, 0), (2, 0, 2), (0, 2, 2)]
        shapes += [(1, 0, 3), (0, 3, 1), (1, 3, 0), (3, 0, 1)]
        for counts in shapes:
            for _ in range(6):
                book = steep(drawing, counts)
                self.assertLessEqual(len(book.slots()), 4)
                names = [("name", name) for name in book.names()]
                for _ in range(6):
                    found = self.assert_plain(book, self.mixed(drawing, names, 40))
                    self.assertLess(size_of(found), 1000)
                for name in names:
                    self.assert_plain(book, name)

    def test_four_slots_of_books_and_sentences_together(self):
        drawing = BookDrawing(4)
        seen = 0
        while seen < 150:
            book = drawing.book(drawing.randint(1, 3), most=2, size=8)
            sentence = drawing.sentence(book.levels, book.names(), drawing.randint(1, 10), free=True)
            many = len(set(book.slots()) | set(slots_in(sentence)))
            if many > 4:
                continue
            seen += many == 4
            self.assert_plain(book, sentence)

    def test_many_slots(self):
        drawing = BookDrawing(5)
        for counts in ((12,), (6, 6), (4, 4, 4), (2, 5, 5), (6, 5, 1), (1, 1, 10)):
            book = steep(drawing, counts)
            names = [("name", name) for name in book.names()]
            for _ in range(4):
                self.assert_plain(book, self.mixed(drawing, names, 60))

    def mixed(self, drawing, names, size):
        if size <= 1:
            return drawing.choice(names)
        if drawing.random() < 0.2:
            return ("not", self.mixed(drawing, names, size - 1))
        first = drawing.randint(1, size - 1)
        parts = (self.mixed(drawing, names, first), self.mixed(drawing, names, size - first))
        return (drawing.choice(["and", "or", "then"]),) + parts

    def test_limits(self):
        drawing = BookDrawing(6)
        seen = {True: 0, False: 0}
        for book in drawing.books(60):
            for name in book.names():
                sentence = ("name", name)
                found = plain(book, sentence)
                size = size_of(found)
                for limit in {1, 2, 3, size - 1, size, size + 1, 100, 19999, 20000} - {0}:
                    seen[size <= limit] += 1
                    if size <= limit:
                        self.assertEqual(plain(book, sentence, limit=limit), found)
                    else:
                        self.assert_raises(TooLong(limit), plain, book, sentence, limit=limit)
        self.assertGreater(min(seen.values()), 50)

    def test_limits_that_there_are_not(self):
        book = Book.made_of(1, x=shown(0, shown(0, X)))
        for limit in (0, -1, 20001, -(10**29), 10**29):
            for sentence in (X, TRUE, None, U, shown(0, FALSE, 13)):
                self.assert_raises(InvalidLimit(limit), plain, book, sentence, limit=limit)

    def test_errors_of_the_meaning(self):
        book = Book.made_of(1, x=shown(0, shown(0, shown(0, FALSE))), y=shown(0, Y))
        for limit in (1, 20000):
            for value in (None, "x", (), ("nothing",), shown(1, U), ("shown", True, X), ["true"], ("and", U, None)):
                self.assert_raises(InvalidSentence(0), plain, book, value, limit=limit)
            self.assert_raises(UnknownName("u"), plain, book, ("and", X, ("or", U, shown(0, FALSE, 13))), limit=limit)
            self.assert_raises(TooMany(12), plain, book, shown(0, FALSE, 13), limit=limit)
        self.assert_raises(TooLong(1), plain, book, shown(0, FALSE, 11), limit=1)
        self.assert_raises(InvalidSentence(0), plain, book, None)

    def test_arguments(self):
        book = Book.made_of(2, g=("not", shown(1, G)))
        kept = book.pairs()
        sentence = ("and", G, shown(0, G))
        before = copy.deepcopy(sentence)
        self.assertEqual(plain(sentence=sentence, book=book, limit=500), plain(book, sentence))
        self.assertEqual((sentence, book.pairs()), (before, kept))
        with self.assertRaises(TypeError):
            plain(book, sentence, 500)

    def test_what_is_returned_may_be_passed(self):
        for book in BookDrawing(7).books(60):
            name = ("name", book.names()[0])
            found = plain(book, name)
            self.assertEqual(meaning_of(book.levels, plain(Book.empty(book.levels), TRUE)), Meaning.always(book.levels))
            if len(slots_in(found)) <= 12:
                self.assertEqual(Book.empty(book.levels).meaning(found), book.meaning(name))
                self.assertEqual(meaning_of(book.levels, plain(Book.empty(book.levels), found)), book.meaning(name))


if __name__ == "__main__":
    unittest.main()
