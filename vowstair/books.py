"""Books: names with sentences that speak of one another."""

from vowstair.errors import DuplicateName, InvalidName, TooMany, UnknownName, Unguarded
from vowstair.meanings import Meaning
from vowstair.rows import check_levels
from vowstair.sentences import check_sentence, is_name, names_in, open_names, replaced
from vowstair.solving import Solution, slots_together


def said(pairs, name, sentence):
    """The pairs with a sentence for a name: a new name comes last, an old one keeps its place."""
    if name not in _names_of(pairs):
        return pairs + [(name, sentence)]
    return [(old, sentence if old == name else told) for old, told in pairs]


def unsaid(pairs, name):
    """The pairs without a name."""
    _check_known(pairs, name)
    return [(old, told) for old, told in pairs if old != name]


def renamed_in(pairs, name, other):
    """The pairs with another name in the place of a name, in all sentences, too."""
    _check_known(pairs, name)
    if not is_name(other):
        raise InvalidName(other)
    if other in _names_of(pairs):
        raise DuplicateName(other)
    names = {name: ("name", other)}
    return [(other if old == name else old, replaced(told, names)) for old, told in pairs]


def inlined_in(pairs, name):
    """The pairs with its sentence in the place of a name, in all other sentences."""
    _check_known(pairs, name)
    names = {old: told for old, told in pairs if old == name}
    return [(old, told if old == name else replaced(told, names)) for old, told in pairs]


def _names_of(pairs):
    return [name for name, sentence in pairs]


def _check_known(pairs, name):
    if name not in _names_of(pairs):
        raise UnknownName(name)


def _check_pairs(levels, pairs):
    """Raise the errors that each pair has by itself."""
    seen = {}
    for index, (name, sentence) in enumerate(pairs):
        if not is_name(name):
            raise InvalidName(name)
        if name in seen:
            raise DuplicateName(name)
        check_sentence(levels, sentence, index=index)
        seen[name] = True


def _check_names(pairs):
    """Raise the errors of sentences that speak of names."""
    for name, sentence in pairs:
        for spoken in names_in(sentence):
            _check_known(pairs, spoken)
        if open_names(sentence):
            raise Unguarded(name)


class Book:
    """Names with sentences, in an order. It is never changed."""

    MAX_NAMES = 12
    MAX_SLOTS = 12

    def __init__(self, levels, pairs=()):
        check_levels(levels)
        kept = [(name, sentence) for name, sentence in pairs]
        _check_pairs(levels, kept)
        if len(kept) > self.MAX_NAMES:
            raise TooMany(self.MAX_NAMES)
        _check_names(kept)
        slots = slots_together([sentence for name, sentence in kept])
        if len(slots) > self.MAX_SLOTS:
            raise TooMany(self.MAX_SLOTS)
        self._levels = levels
        self._pairs = kept
        self._slots = slots

    @classmethod
    def empty(cls, levels):
        """The book without names."""
        return cls(levels)

    @classmethod
    def made_of(cls, levels, **sentences):
        """The book of sentences that are passed by their names."""
        return cls(levels, list(sentences.items()))

    @property
    def levels(self):
        """The number of levels."""
        return self._levels

    def names(self):
        """The list of the names."""
        return _names_of(self._pairs)

    def pairs(self):
        """The list of the pairs (name, sentence)."""
        return list(self._pairs)

    def slots(self):
        """The list of the slots, pairs (level, sentence)."""
        return list(self._slots)

    def solution(self, sentences):
        """The solution of the book with a list of further sentences beside it."""
        for index, sentence in enumerate(sentences):
            check_sentence(self._levels, sentence, index=index)
        for sentence in sentences:
            for name in names_in(sentence):
                _check_known(self._pairs, name)
        if len(slots_together([told for name, told in self._pairs] + sentences)) > self.MAX_SLOTS:
            raise TooMany(self.MAX_SLOTS)
        return Solution(self._levels, self._pairs, sentences)

    def meaning(self, sentence):
        """The set of the rows at which a sentence stands."""
        return Meaning(self._levels, self.solution([sentence]).told_stair(0))

    def stands(self, sentence, row):
        """Whether a sentence stands at a row."""
        return row in self.meaning(sentence)

    def is_valid(self, sentence):
        """Whether a sentence stands at all rows."""
        return self.meaning(sentence).everywhere()

    def in_the_end(self, sentence):
        """Whether a sentence stands in the end."""
        return self.meaning(sentence).in_the_end()

    def extended(self, name, sentence):
        """The book with a sentence for a name: a new name comes last."""
        return Book(self._levels, said(self._pairs, name, sentence))

    def without(self, name):
        """The book without a name."""
        return Book(self._levels, unsaid(self._pairs, name))

    def renamed(self, name, other):
        """The book with another name in the place of a name."""
        return Book(self._levels, renamed_in(self._pairs, name, other))

    def inlined(self, name):
        """The book with its sentence in the place of a name, in all other sentences."""
        return Book(self._levels, inlined_in(self._pairs, name))

    def __getitem__(self, name):
        for old, sentence in self._pairs:
            if old == name:
                return sentence
        raise UnknownName(name)

    def __contains__(self, name):
        return name in _names_of(self._pairs)

    def __iter__(self):
        raise TypeError("a book is not iterable")

    def __len__(self):
        return len(self._pairs)

    def __eq__(self, other):
        return isinstance(other, Book) and self._levels == other._levels and self._pairs == other._pairs

    def __repr__(self):
        return f"Book({self._levels} levels, {len(self._pairs)} names)"
