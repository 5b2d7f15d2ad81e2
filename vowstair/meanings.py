"""Meanings: sets of rows that stairs describe."""

from vowstair.errors import InvalidLevels, LevelsDiffer
from vowstair.ordinals import ZERO, successor
from vowstair.rows import check_levels, check_row
from vowstair.stairs import (
    check_stair, flat_stair, inner_at, joined, least_missing, met, parting, shown_stair, tidy, turned, value_at,
)


class Meaning:
    """The set of rows that a stair describes. It is never changed."""

    def __init__(self, levels, stair):
        check_levels(levels)
        check_stair(levels, stair)
        self._levels = levels
        self._stair = tidy(stair)

    @classmethod
    def always(cls, levels):
        """All rows."""
        check_levels(levels)
        return cls(levels, flat_stair(levels, True))

    @classmethod
    def never(cls, levels):
        """No rows."""
        check_levels(levels)
        return cls(levels, flat_stair(levels, False))

    @classmethod
    def beyond(cls, levels, place, ordinal):
        """The rows whose ordinal at a place is greater than the given one."""
        check_levels(levels)
        _check_place(levels, place)
        behind = levels - place - 1
        steps = ((ZERO, flat_stair(behind, False)), (successor(ordinal), flat_stair(behind, True)))
        return cls(levels, flat_stair(place, steps))

    @property
    def levels(self):
        """The number of levels of the rows."""
        return self._levels

    def stair(self):
        """The tidy stair."""
        return self._stair

    def least(self):
        """The least row in the set, or None."""
        return parting(self._stair, flat_stair(self._levels, False))

    def everywhere(self):
        """Whether all rows are in the set."""
        return least_missing(self._levels, self._stair) is None

    def in_the_end(self):
        """Whether the last step of the last step, and so on, of the tidy stair is True."""
        found = self._stair
        for _ in range(self._levels):
            found = found[-1][1]
        return found

    def lies_in(self, other):
        """Whether all rows of this set are in the other one."""
        _check_alike(self, other)
        return least_missing(self._levels, joined(turned(self._stair), other._stair)) is None

    def shown(self, level):
        """The set of the rows whose rows below at a level are all in this set."""
        _check_place(self._levels, level)
        return Meaning(self._levels, shown_stair(self._levels, self._stair, level))

    def missing_below(self, level, row):
        """The least row that is below a row at a level and not in this set, or None."""
        _check_place(self._levels, level)
        check_row(self._levels, row)
        inner = self._stair
        for ordinal in row[:level]:
            inner = inner_at(inner, ordinal)
        rest = least_missing(self._levels - level, inner)
        if rest is None or rest[0] >= row[level]:
            return None
        return row[:level] + rest

    def __add__(self, other):
        _check_alike(self, other)
        return Meaning(self._levels, joined(self._stair, other._stair))

    def __mul__(self, other):
        _check_alike(self, other)
        return Meaning(self._levels, met(self._stair, other._stair))

    def __neg__(self):
        return Meaning(self._levels, turned(self._stair))

    def __contains__(self, row):
        check_row(self._levels, row)
        return value_at(self._stair, row)

    def __bool__(self):
        return self.least() is not None

    def __eq__(self, other):
        return isinstance(other, Meaning) and self._levels == other._levels and self._stair == other._stair

    def __repr__(self):
        return f"Meaning({self._levels} levels, {len(self._stair)} stretches)"


def _check_place(levels, place):
    if place < 0 or place >= levels:
        raise InvalidLevels()


def _check_alike(one, other):
    if one.levels != other.levels:
        raise LevelsDiffer()


def either(*meanings, levels=1):
    """The union of any number of meanings; of none, there are no rows of so many levels."""
    if not meanings:
        return Meaning.never(levels)
    found = meanings[0]
    for meaning in meanings[1:]:
        found = found + meaning
    return found


def both(*meanings, levels=1):
    """The intersection of any number of meanings; of none, it is all rows of so many levels."""
    if not meanings:
        return Meaning.always(levels)
    found = meanings[0]
    for meaning in meanings[1:]:
        found = found * meaning
    return found
