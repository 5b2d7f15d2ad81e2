"""Books that are drawn, the same ones in each run."""

from tests.drawn import Drawing
from vowstair.books import Book
from vowstair.errors import VowError


class BookDrawing(Drawing):
    def book(self, levels, *, most=4, size=14):
        """A book of drawn sentences, with a slot or more."""
        while True:
            names = list("abcdefghijkl"[:self.randint(1, most)])
            pairs = [(name, self.sentence(levels, names, self.randint(3, size))) for name in names]
            try:
                book = Book(levels, pairs)
            except VowError:
                continue
            if book.slots():
                return book

    def books(self, many, **sizes):
        for at in range(many):
            yield self.book(1 + at * 3 // many, **sizes)
