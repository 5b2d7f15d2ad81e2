"""Ladders: certificates for the solutions of books."""

from vowstair.ordinals import is_ordinal
from vowstair.rows import is_row
from vowstair.solving import Solution, behind_fall
from vowstair.stairs import value_at


def ladder_of(book):
    """The ladder of a book, with the least rows."""
    return _solution(book).ladder()


def ladder_holds(book, ladder):
    """Whether any nested value is a ladder of a book; its rows need not be the least ones."""
    solution = _solution(book)
    return _holds(solution, book.levels, (), solution.ladder(), ladder)


def _solution(book):
    return Solution(book.levels, book.pairs(), [])


def _holds(solution, places, stands, right, value):
    """Whether a value is a ladder for so many places, like the right one but for the rows."""
    if right is None:
        return value is None
    if not isinstance(value, list) or len(value) != len(right):
        return False
    for step, told in zip(right, value):
        if not _step_holds(solution, places, stands, step, told):
            return False
    return True


def _step_holds(solution, places, stands, step, value):
    if not isinstance(value, tuple) or len(value) != 4:
        return False
    begin, standing, falls, inner = step
    if not is_ordinal(value[0]) or value[0] != begin:
        return False
    if not _are_indexes(value[1]) or value[1] != standing:
        return False
    now = stands + standing
    if not _holds(solution, places - 1, now, inner, value[3]):
        return False
    if not isinstance(value[2], tuple) or len(value[2]) != len(falls):
        return False
    for fall, told in zip(falls, value[2]):
        if not _is_pair(told, fall[0]) or not is_row(places - 1, told[1]):
            return False
        # The begins are those of the right ladder, so the next one is right
        # for a row if it is the one that the right row gives.
        if behind_fall(begin, told[1]) != behind_fall(begin, fall[1]):
            return False
        if value_at(solution.body_stair(fall[0], now, inner), told[1]):
            return False
    return True


def _are_indexes(value):
    return isinstance(value, tuple) and all([_is_index(index) for index in value])


def _is_index(value):
    # True is an int to Python, but it is no index here.
    return isinstance(value, int) and not isinstance(value, bool)


def _is_pair(value, index):
    """Whether a value is a pair whose first item is this index."""
    return isinstance(value, tuple) and len(value) == 2 and _is_index(value[0]) and value[0] == index
