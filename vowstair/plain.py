"""Sentences without names that have the same meaning as sentences of a book."""

from vowstair.errors import InvalidLimit, TooLong
from vowstair.sentences import FALSE, TRUE, size_of

MAX_PLAIN = 20000


def plain(book, sentence, *, limit=MAX_PLAIN):
    """A sentence without names, of at most limit nodes, that has the same meaning."""
    if limit < 1 or limit > MAX_PLAIN:
        raise InvalidLimit(limit)
    solution = book.solution([sentence])
    found = _told(solution, 0, (), solution.ladder())
    if size_of(found) > limit:
        raise TooLong(limit)
    return found


def _told(solution, level, stands, ladder):
    """A sentence that stands where the told one does, at places from the level on."""
    if ladder is None:
        return TRUE if solution.is_told(0, stands) else FALSE
    found = TRUE
    bound = TRUE
    before = None
    for at, (begin, standing, falls, inner) in enumerate(ladder):
        told = _told(solution, level + 1, stands + standing, inner)
        if at > 0:
            bound = _next_bound(level, bound, ladder[at - 1])
        if told != before:
            found = _choice(bound, told, found)
        before = told
    return found


def _next_bound(level, bound, step):
    """A sentence that stands from the next step on, if bound stands from this one on.

    The next step begins behind the least ordinal of this one that has the rest
    of a fall. So whatever first stands just there can be told of in the place
    of the sentence that falls, and it can be told without names.
    """
    begin, standing, falls, inner = step
    rest = _rest_told(level + 1, inner, falls[0][1])
    return ("not", ("shown", level, _negated(_conjoined(bound, rest))))


def _rest_told(level, ladder, row):
    """A sentence that stands at a rest, at places from the level on, and at none with a lesser first ordinal.

    The row is the least one at which a sentence fails, and the ladder is the
    one that this sentence depends on.
    """
    if row == ():
        return TRUE
    bound = TRUE
    last = ladder[0]
    for step in ladder[1:]:
        if step[0] > row[0]:
            break
        bound = _next_bound(level, bound, last)
        last = step
    return _conjoined(bound, _rest_told(level + 1, last[3], row[1:]))


def _choice(bound, told, other):
    """A sentence that is told where bound stands, and the other one elsewhere."""
    if bound == TRUE:
        return told
    if told == TRUE:
        return bound if other == FALSE else ("or", bound, other)
    if told == FALSE:
        return _conjoined(_negated(bound), other)
    if other == TRUE:
        return ("then", bound, told)
    if other == FALSE:
        return ("and", bound, told)
    return ("and", ("then", bound, told), ("or", bound, other))


def _conjoined(one, other):
    if one == TRUE:
        return other
    if other == TRUE:
        return one
    return ("and", one, other)


def _negated(sentence):
    if sentence == TRUE:
        return FALSE
    if sentence[0] == "not":
        return sentence[1]
    return ("not", sentence)
