"""Ordinals, stairs and sentences that are drawn, the same ones in each run."""

import random

from tests.samples import ONE, THREE, TWO, ZERO, sums
from vowstair.ordinals import OMEGA, end_of, plus, raised, successor
from vowstair.sentences import FALSE, TRUE

OMEGA_MORE = plus(OMEGA, ONE)
# For each number of levels, ordinals for each place; their ends reach those of the next place.
BEGINS = {
    1: [sums([TWO, ONE, ZERO], 1)],
    2: [sums([TWO, ONE, ZERO], 2), [ZERO, ONE, TWO, THREE]],
    3: [sums([OMEGA_MORE, OMEGA, ONE, ZERO], 1), sums([ONE, ZERO], 2), [ZERO, ONE, TWO]],
}


def holds(stair, row):
    """Whether a row is in the set of a stair, as [5] says it."""
    if row == ():
        return stair
    inner = [step[1] for step in stair if step[0] <= row[0]][-1]
    return holds(inner, row[1:])


def begins_of(stair, place):
    """The begins of the stairs at a place."""
    if isinstance(stair, bool):
        return []
    if place == 0:
        return [begin for begin, _ in stair]
    return [begin for _, inner in stair for begin in begins_of(inner, place - 1)]


def near(ordinals):
    """The ordinals, those just below and above them, and some that are far beyond."""
    found = [ZERO, ONE, OMEGA]
    for ordinal in ordinals:
        found.extend([ordinal, successor(ordinal), plus(ordinal, OMEGA)])
        if end_of(ordinal) == ZERO and ordinal != ZERO:
            exponent, count = ordinal[-1]
            found.append(ordinal[:-1] + ((exponent, count - 1),) * (count > 1))
    return sorted(set(found))


def rows_near(levels, stairs):
    """Rows at and around all begins of some stairs, and around the ordinals at which they can be seen."""
    rests = [()]
    for place in range(levels - 1, -1, -1):
        begins = sorted({begin for stair in stairs for begin in begins_of(stair, place)} | {ZERO})
        firsts = sorted({rest[0] for rest in rests if rest})
        firsts = near(begins + [raised(begin, first) for begin in begins for first in firsts])
        rests = [(first,) + rest for first in firsts for rest in rests if not rest or rest[0] <= end_of(first)]
    return rests


class Drawing(random.Random):
    def stair(self, levels, places=None):
        """A stair whose begins are drawn from lists of ordinals, one for each place."""
        if levels == 0:
            return self.random() < 0.5
        places = BEGINS[levels] if places is None else places
        many = self.randint(0, 3)
        begins = sorted({ZERO} | {self.choice(places[0]) for _ in range(many)})
        return tuple([(begin, self.stair(levels - 1, places[1:])) for begin in begins])

    def sentence(self, levels, names, size, inside=False, free=False):
        """A sentence that has names outside of shown only if free is true."""
        if size <= 1:
            if names and (inside or free) and self.random() < 0.75:
                return ("name", self.choice(names))
            return self.choice([TRUE, FALSE])
        chance = self.random()
        if chance < 0.45:
            return ("shown", self.randrange(levels), self.sentence(levels, names, size - 1, True, free))
        if chance < 0.65:
            return ("not", self.sentence(levels, names, size - 1, inside, free))
        first = self.randint(1, size - 1)
        one = self.sentence(levels, names, first, inside, free)
        other = self.sentence(levels, names, size - first, inside, free)
        return (self.choice(["and", "or", "then"]), one, other)
