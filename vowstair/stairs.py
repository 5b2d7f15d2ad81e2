"""Stairs: step functions on ordinals that describe sets of rows.

A stair of 0 levels is True or False. A stair of more levels is a tuple of
steps (begin, inner), and the inner stairs have one level fewer.
"""

from vowstair.errors import InvalidStair
from vowstair.ordinals import ZERO, end_limit, is_ordinal, raised, successor


def is_stair(levels, value):
    """Whether any nested value is a stair of so many levels, 0 to 3."""
    if levels == 0:
        return isinstance(value, bool)
    if not isinstance(value, tuple) or len(value) == 0:
        return False
    for at, step in enumerate(value):
        if not _is_step(levels, step):
            return False
        # Only what is known to be a step can be compared with another one.
        if at == 0 and step[0] != ZERO:
            return False
        if at > 0 and step[0] <= value[at - 1][0]:
            return False
    return True


def _is_step(levels, value):
    if not isinstance(value, tuple) or len(value) != 2:
        return False
    begin, inner = value
    return is_ordinal(begin) and is_stair(levels - 1, inner)


def check_stair(levels, value):
    """Raise InvalidStair unless the value is a stair of so many levels."""
    if not is_stair(levels, value):
        raise InvalidStair()


def value_at(stair, row):
    """Whether a row of as many levels is in the set of a stair."""
    for ordinal in row:
        stair = inner_at(stair, ordinal)
    return stair


def inner_at(stair, ordinal):
    """The inner stair of the last step whose begin is at most the ordinal."""
    found = stair[0][1]
    for begin, inner in stair:
        if begin > ordinal:
            break
        found = inner
    return found


def flat_stair(levels, value):
    """The stair that has one step at each of so many levels, and a value behind them."""
    for _ in range(levels):
        value = ((ZERO, value),)
    return value


def turned(stair):
    """A stair of the rows that are not in the set of a stair."""
    if isinstance(stair, bool):
        return not stair
    return tuple([(begin, turned(inner)) for begin, inner in stair])


def joined(one, other):
    """A stair of the rows that are in the set of one of two stairs, or of both."""
    if isinstance(one, bool):
        return one or other
    return tuple([(begin, joined(inner, beside)) for begin, inner, beside in _paired(one, other)])


def met(one, other):
    """A stair of the rows that are in the sets of both stairs."""
    return turned(joined(turned(one), turned(other)))


def _paired(one, other):
    """The steps (begin, inner stair of one, inner stair of other) in which neither changes."""
    found = []
    at = 0
    beside = 0
    for begin in sorted([step[0] for step in one + other]):
        while at + 1 < len(one) and one[at + 1][0] <= begin:
            at += 1
        while beside + 1 < len(other) and other[beside + 1][0] <= begin:
            beside += 1
        if not found or found[-1][0] != begin:
            found.append((begin, one[at][1], other[beside][1]))
    return found


def reached(begin, rest):
    """The least ordinal from begin on behind which a rest can stand in a row."""
    if rest == ():
        return begin
    return raised(begin, rest[0])


def parting(one, other):
    """The least row at which two stairs differ, or None."""
    if isinstance(one, bool):
        return None if one == other else ()
    steps = _paired(one, other)
    for at, (begin, inner, beside) in enumerate(steps):
        rest = parting(inner, beside)
        if rest is None:
            continue
        first = reached(begin, rest)
        # Within this step no row may go on with a rest that begins so high.
        if at + 1 == len(steps) or first < steps[at + 1][0]:
            return (first,) + rest
    return None


def least_missing(levels, stair):
    """The least row that is not in the set of a stair, or None."""
    return parting(stair, flat_stair(levels, True))


def shown_stair(levels, stair, level):
    """A stair of the rows whose rows below at a level are all in the set of a stair."""
    if level > 0:
        return tuple([(begin, shown_stair(levels - 1, inner, level - 1)) for begin, inner in stair])
    missing = least_missing(levels, stair)
    if missing is None:
        return flat_stair(levels, True)
    fall = successor(missing[0])
    return ((ZERO, flat_stair(levels - 1, True)), (fall, flat_stair(levels - 1, False)))


def tidy(stair):
    """The tidy stair of the same set."""
    return _tidy_before(stair, None)


def _tidy_before(stair, limit):
    """The tidy stair where only ordinals before the limit count, or all for None."""
    if isinstance(stair, bool):
        return stair
    steps = _longest(stair, limit)
    return tuple([_tidy_step(steps, at, limit) for at in range(len(steps))])


def _tidy_step(steps, at, limit):
    begin, inner = steps[at]
    behind = _behind(steps, at, limit)
    if behind is None:
        return (begin, _tidy_before(inner, None))
    return (begin, _tidy_before(inner, end_limit(begin, behind)))


def _behind(steps, at, limit):
    """Where a step ends: at the next begin, or at the limit."""
    if at + 1 < len(steps):
        return steps[at + 1][0]
    return limit


def _longest(stair, limit):
    """The longest steps, the first one first, with inner stairs that are right but not tidy."""
    steps = [step for step in stair if limit is None or step[0] < limit]
    found = [steps[0]]
    for at in range(1, len(steps)):
        begin, inner = steps[at]
        low, before = found[-1]
        bound = end_limit(low, begin)
        first = _conflict(before, inner, bound, begin)
        behind = _behind(steps, at, limit)
        if first is not None and (behind is None or first < behind):
            found.append((first, inner))
        else:
            found[-1] = (low, _spliced(before, inner, bound))
    return found


def _conflict(before, inner, bound, begin):
    """The least ordinal from begin on at which inner is wrong for the rests up to the bound, or None.

    Rests from the bound on have not occurred behind the ordinals of the step
    so far, so nothing is known of them yet.
    """
    rest = parting(before, inner)
    if rest is None or (rest != () and rest[0] >= bound):
        return None
    return reached(begin, rest)


def _spliced(before, inner, bound):
    """The stair that is as one before the bound and as another one from it on."""
    if isinstance(before, bool):
        return before
    low = tuple([step for step in before if step[0] < bound])
    high = tuple([step for step in inner if step[0] > bound])
    return low + ((bound, inner_at(inner, bound)),) + high
