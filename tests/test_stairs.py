import copy
import unittest

from tests.drawn import BEGINS, Drawing, begins_of, holds, rows_near
from tests.samples import LONG, NO_ORDINALS, OMEGA, OMEGA_TWICE, ONE, THREE, TOWER, TWO, ZERO, sums
from vowstair.errors import InvalidStair
from vowstair.ordinals import end_limit, end_of, natural, plus, successor
from vowstair.stairs import check_stair, is_stair, tidy, value_at

YES = ((ZERO, True),)
NO = ((ZERO, False),)
RIGHT = {
    0: [True, False],
    1: [YES, NO, ((ZERO, True), (ONE, False)), ((ZERO, False), (ONE, False), (OMEGA, True), (LONG, True))],
    2: [((ZERO, YES),), ((ZERO, NO), (OMEGA, YES)),
        ((ZERO, ((ZERO, True), (TOWER, False))), (THREE, NO), (TOWER, YES))],
    3: [((ZERO, ((ZERO, YES),)),), ((ZERO, ((ZERO, NO), (ONE, YES))), (OMEGA, ((ZERO, YES), (OMEGA, NO))))],
}
NO_STAIRS = [
    None, 0, 1, 2, -1, "", "x", "True", [], (), (()), ((),), ((ZERO,),), (ZERO, True), (ZERO, True, True), (True,),
    (True, False), [(ZERO, True)], ([ZERO, True],), ([], True), (([], True),), ((ZERO, 1),), ((ZERO, 0),),
    ((ZERO, None),), ((ZERO, "True"),), ((ZERO, ""),), ((ZERO, True, True),), ((ZERO, True), None),
    ((ONE, True),), ((OMEGA, True), (TOWER, False)), ((ONE, True), (ZERO, False)),
    ((ZERO, True), (ZERO, False)), ((ZERO, True), (ONE, False), (ONE, True)), ((ZERO, True), (TWO, False), (ONE, True)),
    ((ZERO, True), (OMEGA, False), (THREE, True)), ((0, True),), ((ZERO, True), (1, False)), ((None, True),),
    ((ZERO, True), ("w", False)), ((ZERO, True), (((ZERO, 0),), False)), ((ZERO, True), (((ZERO, True),), False)),
    ((ZERO, ()),), ((ZERO, (ZERO, True)),), ((ZERO, [(ZERO, True)]),), ((ZERO, YES), (ONE, True)),
    ((ZERO, True), (ONE, YES)), ((ZERO, YES), (ZERO, YES)), ((ZERO, YES), (ONE, ((ONE, True),))),
    ((ZERO, ((ZERO, YES),)), (ONE, YES)), ((ZERO, YES), (ONE, ((ZERO, YES),))),
    ((ZERO, ((ZERO, ((ZERO, ((ZERO, True),)),)),)),),
]


def deep(many, leaf=()):
    for _ in range(many):
        leaf = (leaf,)
    return leaf


def spoiled(stair):
    """Values that are no stairs, each with one wrong place in a right stair."""
    if isinstance(stair, bool):
        yield from (int(stair), None, str(stair), "", (), [], (stair,), [stair], deep(30))
        return
    yield from (None, True, False, 1, "", (), [], list(stair), stair + (None,), (None,) + stair)
    yield stair[1:] and stair[::-1]
    yield from (stair + (stair[-1],), (stair,), stair + (deep(30),), stair + ((deep(30), stair[-1][1]),))
    for at, (begin, inner) in enumerate(stair):
        before, behind = stair[:at], stair[at + 1:]
        for step in ((begin,), (begin, inner, inner), [begin, inner], (inner, begin), None, begin, inner, (), "ab"):
            yield before + (step,) + behind
        for value in NO_ORDINALS + [deep(30)]:
            yield before + ((value, inner),) + behind
        yield before + ((list(begin), inner),) + behind
        if at == 0:
            yield ((ONE, inner),) + behind
        for value in spoiled(inner):
            yield before + ((begin, value),) + behind


class StairTest(unittest.TestCase):
    def assert_stair(self, levels, value, wanted):
        kept = copy.deepcopy(value)
        with self.subTest(levels=levels, value=value):
            self.assertIs(is_stair(levels, value), wanted)
            if wanted:
                self.assertIsNone(check_stair(levels, value))
            else:
                with self.assertRaises(InvalidStair) as held:
                    check_stair(levels, value)
                self.assertEqual(held.exception.code, "InvalidStair")
            self.assertEqual(value, kept)

    def test_right_stairs_and_their_numbers_of_levels(self):
        for many, stairs in RIGHT.items():
            for stair in stairs:
                for levels in range(4):
                    self.assert_stair(levels, stair, levels == many)

    def test_drawn_stairs(self):
        drawing = Drawing(1)
        for levels in (1, 2, 3):
            for _ in range(40):
                stair = drawing.stair(levels)
                for other in range(4):
                    self.assert_stair(other, stair, other == levels)

    def test_values_that_are_none(self):
        for value in NO_STAIRS:
            for levels in range(4):
                self.assert_stair(levels, value, False)

    def test_one_wrong_place_at_any_depth(self):
        for levels in range(4):
            for stair in RIGHT[levels]:
                for value in spoiled(stair):
                    self.assert_stair(levels, value, False)

    def test_values_nested_deep(self):
        for levels in range(4):
            for value in (deep(40), deep(39, None), deep(39, True), deep(20, ((), True))):
                self.assert_stair(levels, value, False)

    def test_by_keyword(self):
        self.assertIs(is_stair(value=YES, levels=1), True)
        self.assertIsNone(check_stair(value=YES, levels=1))
        with self.assertRaises(InvalidStair):
            check_stair(value=YES, levels=2)


class ValueAtTest(unittest.TestCase):
    def test_no_levels(self):
        self.assertIs(value_at(True, ()), True)
        self.assertIs(value_at(False, ()), False)

    def test_one_level_at_below_and_above_the_begins(self):
        stair = ((ZERO, True), (THREE, False), (OMEGA, True), (plus(OMEGA, ONE), False), (OMEGA_TWICE, True))
        told = {
            ZERO: True, TWO: True, THREE: False, natural(4): False, natural(10**29): False, OMEGA: True,
            plus(OMEGA, ONE): False, plus(OMEGA, natural(10**29)): False, OMEGA_TWICE: True, TOWER: True, LONG: True,
        }
        for ordinal, wanted in told.items():
            self.assertIs(value_at(stair, (ordinal,)), wanted)

    def test_two_levels(self):
        stair = ((ZERO, YES), (OMEGA, ((ZERO, False), (ONE, True))), (OMEGA_TWICE, ((ZERO, True), (ONE, False))))
        told = {
            (ZERO, ZERO): True, (THREE, ZERO): True, (OMEGA, ZERO): False, (OMEGA, ONE): True,
            (plus(OMEGA, ONE), ZERO): False, (OMEGA_TWICE, ZERO): True, (OMEGA_TWICE, ONE): False,
            (TOWER, ZERO): True, (TOWER, ONE): False, (TOWER, OMEGA): False,
        }
        for row, wanted in told.items():
            self.assertIs(value_at(stair, row), wanted)

    def test_three_levels(self):
        inner = ((ZERO, YES), (OMEGA, ((ZERO, False), (ONE, True))))
        stair = ((ZERO, ((ZERO, NO),)), (OMEGA, inner))
        told = {
            (ZERO, ZERO, ZERO): False, (OMEGA, ZERO, ZERO): True, (OMEGA, ONE, ZERO): True,
            (TOWER, OMEGA, ZERO): False, (TOWER, OMEGA, ONE): True, (TOWER, OMEGA_TWICE, ONE): True,
            (TOWER, THREE, ZERO): True, (TOWER, plus(OMEGA, ONE), ZERO): False,
        }
        for row, wanted in told.items():
            self.assertIs(value_at(stair, row), wanted)

    def test_drawn_stairs_near_all_begins(self):
        drawing = Drawing(2)
        for levels in (1, 2, 3):
            for _ in range(15):
                stair = drawing.stair(levels)
                for row in rows_near(levels, [stair]):
                    self.assertIs(value_at(stair, row), holds(stair, row))

    def test_by_keyword(self):
        self.assertIs(value_at(row=(ONE,), stair=((ZERO, True), (ONE, False))), False)


def more_steps(drawing, stair, levels):
    """A stair of the same set with steps that change nothing."""
    if levels == 0:
        return stair
    found = []
    for at, (begin, inner) in enumerate(stair):
        found.append((begin, more_steps(drawing, inner, levels - 1)))
        between = successor(begin) if drawing.random() < 0.5 else plus(begin, OMEGA)
        if drawing.random() < 0.7 and (at + 1 == len(stair) or between < stair[at + 1][0]):
            found.append((between, more_steps(drawing, inner, levels - 1)))
    return tuple(found)


def other_beyond(drawing, stair, levels, limit=None):
    """A stair of the same set with other inner steps where no row can be."""
    if levels == 0:
        return stair
    stair = [step for step in stair if limit is None or step[0] < limit]
    found = []
    for at, (begin, inner) in enumerate(stair):
        behind = stair[at + 1][0] if at + 1 < len(stair) else limit
        bound = None if behind is None else end_limit(begin, behind)
        inner = other_beyond(drawing, inner, levels - 1, bound)
        if bound is not None and levels > 1:
            begins = sorted(drawing.sample([bound, successor(bound), plus(bound, OMEGA)], drawing.randint(1, 3)))
            low = tuple([step for step in inner if step[0] < bound])
            inner = low + tuple([(b, drawing.stair(levels - 2, BEGINS[3][2:])) for b in begins])
        found.append((begin, inner))
    return tuple(found)


def begins_by_definition(stair, firsts, rests):
    """The begins of the longest steps among these ordinals, which ascend."""
    begins, right = [], {}
    for first in firsts:
        told = {rest: holds(stair, (first,) + rest) for rest in rests if not rest or rest[0] <= end_of(first)}
        if not begins or any(right.get(rest, worth) is not worth for rest, worth in told.items()):
            begins.append(first)
            right = {}
        right.update(told)
    return begins


class TidyTest(unittest.TestCase):
    def assert_inner_begins_occur(self, stair, limit=None):
        if isinstance(stair, bool):
            return
        for at, (begin, inner) in enumerate(stair):
            self.assertTrue(limit is None or begin < limit)
            behind = stair[at + 1][0] if at + 1 < len(stair) else limit
            self.assert_inner_begins_occur(inner, None if behind is None else end_limit(begin, behind))

    def test_first_example(self):
        high = ((ZERO, ((ZERO, False), (ONE, True))),)
        self.assertEqual(tidy(high), (((), (((), False), ((((), 1),), True))),))
        low = ((ZERO, YES), (plus(OMEGA, ONE), NO))
        self.assertEqual(tidy(low), (((), (((), True),)), ((((((), 1),), 1), ((), 1)), (((), False),))))

    def test_second_example_begins_later(self):
        stair = ((ZERO, YES), (plus(OMEGA, THREE), ((ZERO, True), (ONE, False))))
        wanted = ((ZERO, YES), (OMEGA_TWICE, ((ZERO, True), (ONE, False))))
        self.assertEqual(tidy(stair), wanted)

    def test_no_levels(self):
        self.assertIs(tidy(True), True)
        self.assertIs(tidy(False), False)

    def test_one_level(self):
        self.assertEqual(tidy(YES), YES)
        self.assertEqual(tidy(((ZERO, True), (ONE, True), (OMEGA, True))), YES)
        stair = ((ZERO, False), (ONE, False), (TWO, True), (OMEGA, True), (TOWER, False), (LONG, False))
        self.assertEqual(tidy(stair), ((ZERO, False), (TWO, True), (TOWER, False)))

    def test_inner_steps_are_cut_at_the_limit(self):
        inner = ((ZERO, True), (ONE, False), (TWO, True))
        # Below omega only the rest 0 occurs, below its square also the rest 1.
        self.assertEqual(tidy(((ZERO, inner), (OMEGA, NO))), ((ZERO, YES), (OMEGA, NO)))
        square, cube = ((TWO, 1),), ((THREE, 1),)
        self.assertEqual(tidy(((ZERO, inner), (square, NO))), ((ZERO, inner[:2]), (square, NO)))
        self.assertEqual(tidy(((ZERO, inner), (cube, NO))), ((ZERO, inner), (cube, NO)))
        self.assertEqual(tidy(((ZERO, inner),)), ((ZERO, inner),))

    def test_a_difference_that_cannot_be_seen_makes_no_step(self):
        self.assertEqual(tidy(((ZERO, YES), (ONE, ((ZERO, True), (ONE, False))), (OMEGA, YES))), ((ZERO, YES),))
        inner = ((ZERO, True), (ONE, False))
        self.assertEqual(tidy(((ZERO, YES), (OMEGA, inner))), ((ZERO, inner),))
        self.assertEqual(tidy(((ZERO, YES), (plus(OMEGA, ONE), inner))), ((ZERO, YES), (OMEGA_TWICE, inner)))

    def test_a_step_takes_up_what_later_steps_tell(self):
        more = ((ZERO, True), (ONE, False), (TWO, True))
        self.assertEqual(tidy(((ZERO, YES), (OMEGA, more[:2]), (((TWO, 1),), more))), ((ZERO, more),))

    def test_three_levels_begin_later_inside(self):
        inner = ((ZERO, YES), (plus(OMEGA, THREE), ((ZERO, True), (ONE, False))))
        tidied = ((ZERO, YES), (OMEGA_TWICE, ((ZERO, True), (ONE, False))))
        self.assertEqual(tidy(((ZERO, inner),)), ((ZERO, tidied),))
        power = ((OMEGA_TWICE, 1),)
        wanted = ((ZERO, ((ZERO, YES),)), (power, ((ZERO, NO),)))
        self.assertEqual(tidy(((ZERO, inner), (power, ((ZERO, NO),)))), wanted)
        behind = successor(power)
        wanted = ((ZERO, tidied), (behind, ((ZERO, NO),)))
        self.assertEqual(tidy(((ZERO, inner), (behind, ((ZERO, NO),)))), wanted)

    def test_the_last_inner_step_ends_at_the_limit(self):
        # Rests of the step have first ordinals up to omega, and so second ones up to 1.
        power = successor(((OMEGA, 1),))
        inner = ((ZERO, ((ZERO, True), (ONE, False), (TWO, True))),)
        wanted = ((ZERO, ((ZERO, ((ZERO, True), (ONE, False))),)), (power, ((ZERO, NO),)))
        self.assertEqual(tidy(((ZERO, inner), (power, ((ZERO, NO),)))), wanted)
        self.assertEqual(tidy(((ZERO, inner),)), ((ZERO, inner),))

    def test_the_same_rows_near_all_begins(self):
        drawing = Drawing(3)
        for levels in (1, 2, 3):
            for _ in range(60):
                stair = drawing.stair(levels)
                found = tidy(stair)
                self.assertTrue(is_stair(levels, found))
                for row in rows_near(levels, [stair, found]):
                    self.assertIs(holds(found, row), holds(stair, row), (stair, row))

    def test_tidy_again_and_other_stairs_of_the_same_set(self):
        drawing = Drawing(4)
        for levels in (1, 2, 3):
            for _ in range(200):
                stair = drawing.stair(levels)
                kept = copy.deepcopy(stair)
                found = tidy(stair)
                self.assertEqual(stair, kept)
                self.assertEqual(tidy(found), found)
                self.assertEqual(tidy(more_steps(drawing, stair, levels)), found)
                self.assertEqual(tidy(other_beyond(drawing, stair, levels)), found)
                self.assertEqual(tidy(other_beyond(drawing, found, levels)), found)
                self.assertEqual(tidy(more_steps(drawing, other_beyond(drawing, stair, levels), levels)), found)

    def test_inner_begins_lie_below_the_limits(self):
        drawing = Drawing(5)
        for levels in (1, 2, 3):
            for _ in range(200):
                self.assert_inner_begins_occur(tidy(drawing.stair(levels)))

    def test_each_step_is_as_long_as_possible(self):
        drawing = Drawing(6)
        firsts = {
            1: sums([TWO, ONE, ZERO], 2),
            2: sums([THREE, TWO, ONE, ZERO], 3),
            3: sums([OMEGA_TWICE, plus(OMEGA, ONE), OMEGA, TWO, ONE, ZERO], 2),
        }
        rests = {
            1: [()],
            2: [(natural(number),) for number in range(4)],
            3: [(one, other) for one in sums([TWO, ONE, ZERO], 2) for other in sums([ZERO], 2) if other <= end_of(one)],
        }
        for levels, many in ((1, 150), (2, 150), (3, 60)):
            later = 0
            for _ in range(many):
                stair = drawing.stair(levels)
                found = begins_of(tidy(stair), 0)
                known = sorted(set(firsts[levels]) | set(found))
                self.assertEqual(found, begins_by_definition(stair, known, rests[levels]), stair)
                later += any(begin not in begins_of(stair, 0) for begin in found)
            self.assertTrue(levels == 1 or later > 0)

    def test_by_keyword(self):
        self.assertEqual(tidy(stair=((ZERO, True), (ONE, True))), YES)


if __name__ == "__main__":
    unittest.main()
