"""The texts of stores."""

from vowstair.books import Book
from vowstair.errors import Missing, ParseError, VowError
from vowstair.notation import format_sentence, sentence_told
from vowstair.rows import MAX_LEVELS
from vowstair.sentences import is_name
from vowstair.store import Store


def page(store):
    """The text of a store."""
    book = store.book()
    lines = [_head(book.levels)]
    for name, sentence in book.pairs():
        lines.append(f"{name} = {format_sentence(sentence)}")
    return "".join([line + "\n" for line in lines])


def read_page(text):
    """A store with the book of a text."""
    lines = text.split("\n")
    # What stands behind the last line feed is a line only if there is something.
    if len(lines) > 1 and lines[-1] == "":
        lines.pop()
    levels = _levels_told(lines[0])
    if levels is None:
        raise ParseError(0)
    pairs = []
    for index, line in enumerate(lines):
        if index > 0:
            pairs.append(_pair_told(levels, line, index))
    ended = text.count("\n")
    if not text.endswith("\n"):
        raise ParseError(ended)
    try:
        return Store.holding(Book(levels, pairs))
    except (VowError, Missing):
        raise ParseError(ended) from None


def _head(levels):
    return f"levels {levels}"


def _levels_told(line):
    """The number of levels that a first line tells, or None."""
    for levels in range(1, MAX_LEVELS + 1):
        if line == _head(levels):
            return levels
    return None


def _pair_told(levels, line, index):
    """The pair of a name and a sentence that another line tells."""
    name, _, text = line.partition(" = ")
    sentence = sentence_told(levels, text)
    if not is_name(name) or sentence is None:
        raise ParseError(index)
    return (name, sentence)
