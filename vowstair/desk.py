"""A desk, which answers lines: commands to a store, and questions about its book."""

from vowstair.errors import Missing, NothingLeft, VowError
from vowstair.notation import format_row, format_sentence, sentence_told
from vowstair.plain import plain
from vowstair.store import Store
from vowstair.verdicts import compare

# How many words follow the first one, in lines without sentences.
_MORE_WORDS = {"unsay": 1, "rename": 2, "inline": 1, "undo": 0, "redo": 0, "names": 0, "show": 1}
# The first words that one sentence follows.
_OF_ONE_SENTENCE = ("valid", "end", "least", "plain")


class Desk:
    """Answers to lines about one store."""

    def __init__(self, *, store=None):
        # A store without names is not true, but it is the one to be used.
        self._store = Store() if store is None else store

    def store(self):
        """The very store that the lines speak of."""
        return self._store

    def say(self, line):
        """The answer to a line."""
        deed = _deed(self._store.book().levels, line)
        if deed is None:
            return "invalid"
        try:
            return _answer(self._store, deed)
        except (VowError, Missing, NothingLeft) as error:
            return f"error {error.code}"


def _deed(levels, line):
    """The first word of a line with the words and sentences behind it, or None if it is invalid."""
    words = line.split(" ")
    word = words[0]
    if "" in words:
        return None
    if word in _MORE_WORDS:
        return tuple(words) if len(words) == _MORE_WORDS[word] + 1 else None
    if word == "say":
        return _deed_with(levels, words[:2], [" ".join(words[2:])])
    if word in _OF_ONE_SENTENCE:
        return _deed_with(levels, words[:1], [" ".join(words[1:])])
    if word == "compare":
        one, _, other = " ".join(words[1:]).partition(" ; ")
        return _deed_with(levels, words[:1], [one, other])
    return None


def _deed_with(levels, words, texts):
    """The words with the sentences of the texts behind them, or None if one cannot be parsed."""
    sentences = [sentence_told(levels, text) for text in texts]
    return None if None in sentences else tuple(words + sentences)


def _answer(store, deed):
    word = deed[0]
    if word in ("say", "unsay", "rename", "inline"):
        store.do(deed)
        return "ok"
    if word == "undo":
        store.undo()
        return "ok"
    if word == "redo":
        store.redo()
        return "ok"
    if word in ("valid", "end", "least"):
        return _asked(word, store.ask(deed[1]))
    return _told(store.book(), deed)


def _asked(word, meaning):
    """The answer to a question that the meaning of a sentence decides."""
    if word == "least":
        row = meaning.least()
        return "none" if row is None else format_row(row)
    held = meaning.everywhere() if word == "valid" else meaning.in_the_end()
    return "yes" if held else "no"


def _told(book, deed):
    """The answer to a question that a book decides without its store."""
    word = deed[0]
    if word == "names":
        return " ".join(book.names()) or "none"
    if word == "show":
        return format_sentence(book[deed[1]])
    if word == "plain":
        return format_sentence(plain(book, deed[1]))
    return compare(book, deed[1], deed[2]).told()
