"""Doers, who act on what can be shown of one another."""

from vowstair.books import Book
from vowstair.errors import DuplicateName, InvalidDoer, InvalidName, TooMany, UnknownName
from vowstair.rows import check_levels
from vowstair.sentences import check_sentence, names_in, open_names, replaced

MAX_DOERS = 3


def act_name(one, other):
    """The name that says that one doer acts to another one."""
    return one + other + "do"


class Field:
    """Doers with rules, and the book that says who acts to whom. It is never changed."""

    def __init__(self, levels, rules):
        check_levels(levels)
        _check_doers([doer for doer, rule in rules])
        _check_rules(levels, rules)
        self._doers = [doer for doer, rule in rules]
        self._book = Book(levels, _pairs(rules))

    def doers(self):
        """The list of the doers."""
        return list(self._doers)

    def book(self):
        """The book that has a name for each pair of doers."""
        return self._book

    def acts(self, one, other):
        """Whether one doer acts to another one, or to itself."""
        for doer in (one, other):
            if doer not in self._doers:
                raise UnknownName(doer)
        return self._book.in_the_end(("name", act_name(one, other)))

    def walk(self):
        """Yield a triple (one, other, whether one acts to other) for each pair of doers."""
        for one in self._doers:
            for other in self._doers:
                yield one, other, self.acts(one, other)

    def chart(self):
        """A text with a line for each doer that tells to whom it acts."""
        lines = [" " * 3 + "".join([doer.rjust(4) for doer in self._doers])]
        for one in self._doers:
            words = ["yes" if self.acts(one, other) else "no" for other in self._doers]
            lines.append(one.ljust(3) + "".join([word.rjust(4) for word in words]))
        return "\n".join(lines)


def _check_doers(doers):
    for at, doer in enumerate(doers):
        if not _is_doer(doer):
            raise InvalidName(doer)
        if doer in doers[:at]:
            raise DuplicateName(doer)
    if len(doers) > MAX_DOERS:
        raise TooMany(MAX_DOERS)


def _is_doer(text):
    return len(text) == 1 and "a" <= text <= "z"


def _check_rules(levels, rules):
    known = ["me", "you"] + [doer for doer, rule in rules]
    for index, (doer, rule) in enumerate(rules):
        check_sentence(levels, rule, index=index)
        for name in names_in(rule):
            if name not in known:
                raise UnknownName(name)
        if open_names(rule):
            raise InvalidDoer(doer)


def _pairs(rules):
    """The pairs of the book: for each doer, in order, its rule towards each one."""
    doers = [doer for doer, rule in rules]
    found = []
    for one, rule in rules:
        for other in doers:
            names = {doer: ("name", act_name(other, doer)) for doer in doers}
            names["me"] = ("name", act_name(one, other))
            names["you"] = ("name", act_name(other, one))
            found.append((act_name(one, other), replaced(rule, names)))
    return found
