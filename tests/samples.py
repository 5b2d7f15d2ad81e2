"""Ordinals and values that several tests use, written without the package."""

from itertools import product

ZERO = ()
ONE = ((ZERO, 1),)
TWO = ((ZERO, 2),)
THREE = ((ZERO, 3),)
OMEGA = ((ONE, 1),)
OMEGA_AND_ONE = ((ONE, 1), (ZERO, 1))
OMEGA_TWICE = ((ONE, 2),)
OMEGA_SQUARED = ((TWO, 1),)
OMEGA_TO_OMEGA = ((OMEGA, 1),)
TOWER = ((OMEGA_TO_OMEGA, 1),)
LONG = ((OMEGA_TO_OMEGA, 2), (((TWO, 1), (ZERO, 5)), 3), (OMEGA_AND_ONE, 1), (ONE, 4), (ZERO, 10**29))


def sums(exponents, most):
    """All ordinals with these descending exponents and counts up to most, ascending."""
    found = []
    for counts in product(range(most + 1), repeat=len(exponents)):
        found.append(tuple([(e, n) for e, n in zip(exponents, counts) if n > 0]))
    return found


def small():
    """The 27 ordinals below omega**3 whose counts are at most 2."""
    return sums([TWO, ONE, ZERO], 2)


def wide():
    """Ordinals whose exponents lie at and around the limits omega and omega * 2."""
    return sums([((ONE, 2),), OMEGA_AND_ONE, OMEGA, TWO, ONE, ZERO], 1) + [TOWER, LONG]


def tower(height, leaf=ZERO):
    """Powers of omega on one another, so many, with a leaf on top."""
    for _ in range(height):
        leaf = ((leaf, 1),)
    return leaf


NO_ORDINALS = [
    None, True, False, 0, 1, -1, 7, "", "w", "0", "ab", [], [()], [((), 1)], [[(), 1]],
    ((),), (((),),), (1,), (1, 1), ((), 1), (None,), ("",), ("ab",), (True,), ([],),
    (((), 0),), (((), -1),), (((), -(10**29)),), (((), True),), (((), False),), (((), "1"),),
    (((), None),), (((), (1,)),), (((), ()),), (((), [1]),),
    (((), 1, 1),), (((), 1, ()),), (((), 1), ()), ([(), 1],), (([], 1),), ((None, 1),), ((0, 1),), ((1, 1),),
    (("", 1),), ((True, 1),), ((False, 1),), ((((), 1), 1),),
    (((), 1), ((), 1)), (((), 2), ((), 1)), (((), 1), ((((), 1),), 1)), ((ONE, 1), (ONE, 1)),
    ((ONE, 1), (TWO, 1)), ((ONE, 1), (ZERO, 1), (ZERO, 1)), ((TWO, 1), (ZERO, 1), (ONE, 1)),
    ((OMEGA, 1), (OMEGA_AND_ONE, 1)), ((ONE, 1), (ZERO, 1), None), (None, (ONE, 1), (ZERO, 1)),
    ((ONE, 1), None, (ZERO, 1)), ((ONE, 1), (None, 1)), ((None, 1), (ZERO, 1)), (("w", 1), (ZERO, 1)),
    ((ONE, 1), ("", 1)), ((ONE, 1), (1, 1)), ((TWO, 1), ([], 1)),
]
