"""A store: a book that is edited, with undo, redo and kept answers."""

from vowstair.books import Book, inlined_in, renamed_in, said, unsaid
from vowstair.errors import InvalidCommand, InvalidLimit, InvalidName, NothingLeft, TooMany
from vowstair.sentences import check_sentence, is_name

MOST_NAMES = 12

# How many items each command has.
_SIZES = {"say": 3, "unsay": 2, "rename": 3, "inline": 2}


class Store:
    """A book that is edited: each step puts another book in its place."""

    def __init__(self, *, levels=2, limit=MOST_NAMES):
        self._book = Book.empty(levels)
        self.set_limit(limit)
        self._past = []
        self._future = []
        self._kept = []
        self._solved = 0
        self._busy = False

    @classmethod
    def holding(cls, book):
        """A store with this book, without steps and kept meanings."""
        found = cls(levels=book.levels)
        found._book = book
        return found

    @property
    def limit(self):
        """The greatest number of names."""
        return self._limit

    @limit.setter
    def limit(self, value):
        self.set_limit(value)

    def set_limit(self, value):
        """Make a number the greatest number of names."""
        if value < len(self._book) or value > MOST_NAMES:
            raise InvalidLimit(value)
        self._limit = value

    @property
    def solved(self):
        """The number of meanings that were computed by ask."""
        return self._solved

    def do(self, command):
        """Apply one command as a step."""
        self.do_all([command])

    def do_all(self, commands):
        """Apply a list of commands as one step."""
        self._busy = True
        try:
            book = _book_behind(self._book, self._limit, commands)
        finally:
            self._busy = False
        self._past.append(self._book)
        self._future = []
        self._put(book)

    def is_busy(self):
        """Whether commands are being applied."""
        return self._busy

    def undo(self):
        """Undo the last step."""
        if len(self._past) == 0:
            raise NothingLeft()
        self._future.append(self._book)
        self._put(self._past.pop())

    def redo(self):
        """Redo the step that was undone last."""
        if len(self._future) == 0:
            raise NothingLeft()
        self._past.append(self._book)
        self._put(self._future.pop())

    def history(self):
        """The numbers of steps that can be undone and redone."""
        return (len(self._past), len(self._future))

    def book(self):
        """The book."""
        return self._book

    def ask(self, sentence):
        """The meaning of a sentence of the book; it is kept as long as the book is."""
        # A value that is no sentence may be equal to one that is kept.
        check_sentence(self._book.levels, sentence)
        for asked, meaning in self._kept:
            if asked == sentence:
                return meaning
        found = self._book.meaning(sentence)
        self._kept.append((sentence, found))
        self._solved += 1
        return found

    def kept(self):
        """The list of the sentences whose meanings are kept."""
        return [sentence for sentence, meaning in self._kept]

    def twin(self):
        """A store that is as this one is now."""
        found = Store.holding(self._book)
        found._limit = self._limit
        found._past = list(self._past)
        found._future = list(self._future)
        found._kept = list(self._kept)
        found._solved = self._solved
        return found

    def _put(self, book):
        """Put a book in the place of this one, and keep no meanings that were of another book."""
        if book != self._book:
            self._kept = []
        self._book = book

    def __len__(self):
        return len(self._book)

    def __eq__(self, other):
        return isinstance(other, Store) and self._book == other._book

    def __repr__(self):
        return f"Store({self._book.levels} levels, {len(self._book)} names, {len(self._past)} steps)"


def _book_behind(book, limit, commands):
    """The book behind all commands."""
    for index, command in enumerate(commands):
        if not _is_command(command):
            raise InvalidCommand(index)
    pairs = book.pairs()
    for index, command in enumerate(commands):
        pairs = _pairs_behind(book.levels, pairs, command, index)
    if len(pairs) > limit:
        raise TooMany(limit)
    return Book(book.levels, pairs)


def _is_command(value):
    return len(value) > 0 and value[0] in _SIZES and len(value) == _SIZES[value[0]]


def _pairs_behind(levels, pairs, command, index):
    """The pairs of names and sentences behind one command."""
    word = command[0]
    name = command[1]
    if word == "say":
        if not is_name(name):
            raise InvalidName(name)
        check_sentence(levels, command[2], index=index)
        return said(pairs, name, command[2])
    if word == "unsay":
        return unsaid(pairs, name)
    if word == "rename":
        return renamed_in(pairs, name, command[2])
    return inlined_in(pairs, name)
