"""Verdicts: whether two sentences stand at the same rows, and where they first differ."""

from vowstair.notation import format_row
from vowstair.stairs import parting, value_at


def compare(book, one, other):
    """The verdict about two sentences of a book."""
    solution = book.solution([one, other])
    stair = solution.told_stair(0)
    row = parting(stair, solution.told_stair(1))
    if row is None:
        return Alike(book.levels)
    return Parted(book.levels, row, value_at(stair, row))


class Verdict:
    """What is known of two sentences: the least row at which they differ, or None."""

    def __init__(self, levels, row):
        self._levels = levels
        self.row = row

    def told(self):
        """The verdict as a text."""
        return f"{self._levels} levels"

    def __bool__(self):
        return self.row is None


class Alike(Verdict):
    """The sentences stand at the same rows."""

    def __init__(self, levels):
        Verdict.__init__(self, levels, None)

    def told(self):
        """The verdict as a text."""
        return f"{self._levels} levels: alike"

    def __bool__(self):
        return self.row is None


class Parted(Verdict):
    """The sentences differ at a row; first tells whether the first one stands there."""

    def __init__(self, levels, row, first):
        Verdict.__init__(self, levels, row)
        self.first = first

    def told(self):
        """The verdict as a text."""
        word = "first" if self.first else "second"
        return f"{self._levels} levels: {word} at {format_row(self.row)}"

    def __bool__(self):
        return self.row is None
