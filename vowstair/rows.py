"""Levels and rows: tuples with an ordinal for each level."""

from vowstair.errors import InvalidLevels, InvalidRow
from vowstair.ordinals import ZERO, end_of, is_ordinal

MAX_LEVELS = 3


def check_levels(levels):
    """Raise InvalidLevels unless levels is 1 to 3."""
    if levels < 1 or levels > MAX_LEVELS:
        raise InvalidLevels()


def is_row(levels, value):
    """Whether any nested value is a row of 0 to 3 levels, or a rest of as many places."""
    if not isinstance(value, tuple) or len(value) != levels:
        return False
    for at, ordinal in enumerate(value):
        if not is_ordinal(ordinal):
            return False
        if at > 0 and ordinal > end_of(value[at - 1]):
            return False
    return True


def check_row(levels, value):
    """Raise InvalidRow unless the value is a row of so many levels."""
    if not is_row(levels, value):
        raise InvalidRow()


def least_row(levels):
    """The row of zeros."""
    return (ZERO,) * levels


def is_below(level, row, other):
    """Whether the row other is below the row at a level."""
    return row[:level] == other[:level] and other[level] < row[level]
