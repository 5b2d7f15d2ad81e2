"""Ordinals: tuples of terms (exponent, count), the greatest exponent first.

Two ordinals are compared as tuples, with `<` and `==`.
"""

ZERO = ()
ONE = (((), 1),)
OMEGA = (((((), 1),), 1),)


def is_ordinal(value):
    """Whether any nested value is an ordinal."""
    if not isinstance(value, tuple):
        return False
    for at, term in enumerate(value):
        if not _is_term(term):
            return False
        # Only what is known to be an ordinal can be compared with another one.
        if at > 0 and term[0] >= value[at - 1][0]:
            return False
    return True


def _is_term(value):
    if not isinstance(value, tuple) or len(value) != 2:
        return False
    exponent, count = value
    return _is_count(count) and is_ordinal(exponent)


def _is_count(value):
    # True is an int to Python, but it is no number here.
    return isinstance(value, int) and not isinstance(value, bool) and value >= 1


def natural(number):
    """The ordinal of a number from 0 on."""
    return omega_power(ZERO, times=number)


def omega_power(exponent, *, times=1):
    """The power of omega with this exponent, taken so many times, from 0 on."""
    if times == 0:
        return ZERO
    return ((exponent, times),)


def plus(one, other):
    """The sum of two ordinals."""
    if other == ZERO:
        return one
    exponent, count = other[0]
    greater = tuple([term for term in one if term[0] > exponent])
    equal = [term[1] for term in one if term[0] == exponent]
    return greater + ((exponent, sum(equal) + count),) + other[1:]


def successor(ordinal):
    """The least ordinal that is greater."""
    return plus(ordinal, ONE)


def end_of(ordinal):
    """The end: the exponent of the last term, and 0 for 0."""
    if ordinal == ZERO:
        return ZERO
    return ordinal[-1][0]


def raised(ordinal, end):
    """The least ordinal that is at least `ordinal` and whose end is at least `end`."""
    if end_of(ordinal) >= end:
        return ordinal
    # Apart from 0, the ordinals with such an end are the multiples of this
    # power, and the sum swallows just the terms that keep it from being one.
    return plus(ordinal, omega_power(end))


def end_limit(low, behind):
    """The least ordinal above the ends of all ordinals from low on, before behind."""
    first = successor(end_of(low))
    gap = _gap(low, behind)
    exponent = gap[0][0]
    # An ordinal behind low is low + x with x from 1 on and less than gap, and
    # it ends as x does. The power itself is such an x only if it is below gap.
    if gap == omega_power(exponent):
        return max(first, exponent)
    return max(first, successor(exponent))


def _gap(low, behind):
    """The ordinal that makes behind when it is added to low, which is less."""
    at = 0
    while at < len(low) and low[at] == behind[at]:
        at += 1
    if at < len(low) and low[at][0] == behind[at][0]:
        exponent, count = behind[at]
        return ((exponent, count - low[at][1]),) + behind[at + 1:]
    return behind[at:]
