import copy
import unittest

from tests.samples import (
    LONG, NO_ORDINALS, OMEGA, OMEGA_AND_ONE, OMEGA_SQUARED, OMEGA_TO_OMEGA, OMEGA_TWICE,
    ONE, THREE, TOWER, TWO, ZERO, small, wide,
)
from vowstair import rows
from vowstair.errors import InvalidLevels, InvalidRow
from vowstair.ordinals import end_of, natural, successor
from vowstair.rows import check_levels, check_row, is_below, is_row, least_row

ROWS = {
    0: [()],
    1: [(ZERO,), (ONE,), (OMEGA,), (LONG,), (TOWER,)],
    2: [(ZERO, ZERO), (ONE, ZERO), (OMEGA, ZERO), (OMEGA, ONE), (OMEGA_TWICE, ONE), (OMEGA_SQUARED, TWO),
        (OMEGA_TO_OMEGA, OMEGA), (OMEGA_TO_OMEGA, natural(10**29)), (LONG, ZERO), (TOWER, OMEGA_AND_ONE)],
    3: [(ZERO, ZERO, ZERO), (OMEGA, ONE, ZERO), (OMEGA_TO_OMEGA, OMEGA, ONE), (OMEGA_TO_OMEGA, OMEGA, ZERO),
        (OMEGA_TO_OMEGA, THREE, ZERO), (TOWER, OMEGA_TO_OMEGA, OMEGA), (TOWER, OMEGA_SQUARED, TWO)],
}
ONE_TOO_GREAT = {
    2: [(ZERO, ONE), (ONE, ONE), (OMEGA, TWO), (OMEGA_TWICE, TWO), (OMEGA_TO_OMEGA, OMEGA_AND_ONE),
        (OMEGA_AND_ONE, ONE), (LONG, ONE)],
    3: [(ZERO, ZERO, ONE), (ZERO, ONE, ZERO), (OMEGA, ONE, ONE), (OMEGA, TWO, ZERO), (OMEGA_TO_OMEGA, OMEGA, TWO),
        (OMEGA_TO_OMEGA, OMEGA_AND_ONE, ZERO), (TOWER, OMEGA_TO_OMEGA, OMEGA_AND_ONE)],
}
NO_ROWS = [None, True, False, 0, 1, 2, 3, "", "0", "0,0", "abc", [], [()], [(), ()], [(), (), ()], [[], [], []]]


class LevelsTest(unittest.TestCase):
    def test_most(self):
        self.assertEqual(rows.MAX_LEVELS, 3)

    def test_right_levels(self):
        for levels in (1, 2, 3):
            self.assertIsNone(check_levels(levels))
        self.assertIsNone(check_levels(levels=2))

    def test_wrong_levels(self):
        for levels in (0, -1, -3, 4, 5, 10**29, -(10**29)):
            with self.subTest(levels), self.assertRaises(InvalidLevels):
                check_levels(levels)
            with self.subTest(levels), self.assertRaises(InvalidLevels):
                check_levels(levels=levels)


class RowTest(unittest.TestCase):
    def assert_row(self, levels, value, wanted):
        kept = copy.deepcopy(value)
        with self.subTest(levels=levels, value=value):
            self.assertIs(is_row(levels, value), wanted)
            if wanted:
                self.assertIsNone(check_row(levels, value))
            else:
                with self.assertRaises(InvalidRow):
                    check_row(levels, value)
            self.assertEqual(value, kept)

    def test_rows_and_their_numbers_of_levels(self):
        for many, found in ROWS.items():
            for row in found:
                for levels in range(4):
                    self.assert_row(levels, row, levels == many)

    def test_an_ordinal_greater_than_the_end_before_it(self):
        for many, found in ONE_TOO_GREAT.items():
            for row in found:
                for levels in range(4):
                    self.assert_row(levels, row, False)

    def test_up_to_the_end_and_one_further(self):
        for first in wide():
            end = end_of(first)
            self.assert_row(2, (first, end), True)
            self.assert_row(2, (first, successor(end)), False)
            self.assert_row(3, (first, end, end_of(end)), True)
            self.assert_row(3, (first, end, successor(end_of(end))), False)
            self.assert_row(3, (first, successor(end), ZERO), False)
            for other in small():
                self.assert_row(2, (first, other), other <= end)

    def test_the_second_end_decides_about_the_third_ordinal(self):
        self.assert_row(3, (OMEGA_TO_OMEGA, THREE, ONE), False)
        self.assert_row(3, (TOWER, OMEGA_TWICE, ONE), True)
        self.assert_row(3, (TOWER, OMEGA_TWICE, TWO), False)

    def test_too_few_and_too_many_ordinals(self):
        for levels in range(4):
            for many in range(6):
                self.assert_row(levels, (ZERO,) * many, levels == many)

    def test_no_rows_at_all(self):
        for value in NO_ROWS:
            for levels in range(4):
                self.assert_row(levels, value, False)

    def test_a_place_that_holds_no_ordinal(self):
        for value in NO_ORDINALS:
            self.assert_row(1, (value,), False)
            self.assert_row(2, (value, ZERO), False)
            self.assert_row(2, (TOWER, value), False)
            self.assert_row(3, (value, ZERO, ZERO), False)
            self.assert_row(3, (TOWER, value, ZERO), False)
            self.assert_row(3, (TOWER, OMEGA, value), False)

    def test_lists_are_no_rows(self):
        for levels, found in ROWS.items():
            for row in found:
                self.assert_row(levels, list(row), False)
                self.assert_row(levels, tuple([list(ordinal) for ordinal in row]), levels == 0)

    def test_values_nested_deep(self):
        deep = ()
        for _ in range(38):
            deep = (deep,)
        self.assert_row(1, deep, False)
        self.assert_row(2, (ZERO, deep), False)

    def test_by_keyword(self):
        self.assertIs(is_row(value=(OMEGA, ONE), levels=2), True)
        self.assertIsNone(check_row(value=(OMEGA, ONE), levels=2))
        with self.assertRaises(InvalidRow):
            check_row(value=(OMEGA, TWO), levels=2)


class LeastRowTest(unittest.TestCase):
    def test_zeros(self):
        self.assertEqual([least_row(1), least_row(2), least_row(levels=3)], [((),), ((), ()), ((), (), ())])

    def test_nothing_is_less(self):
        for levels in (1, 2, 3):
            self.assertTrue(is_row(levels, least_row(levels)))
            self.assertEqual([row for row in ROWS[levels] if row < least_row(levels)], [])
            for level in range(levels):
                self.assertFalse(any(is_below(level, least_row(levels), row) for row in ROWS[levels]))


class IsBelowTest(unittest.TestCase):
    def test_one_level(self):
        self.assertIs(is_below(0, (ONE,), (ZERO,)), True)
        self.assertIs(is_below(0, (ZERO,), (ONE,)), False)
        self.assertIs(is_below(0, (OMEGA,), (natural(10**29),)), True)
        self.assertIs(is_below(0, (ONE,), (ONE,)), False)

    def test_places_behind_the_level_do_not_matter(self):
        row = (OMEGA_TO_OMEGA, THREE, ZERO)
        for rest in [(ZERO, ZERO), (TWO, ZERO), (THREE, ZERO), (OMEGA, ONE)]:
            self.assertIs(is_below(0, row, (OMEGA_TO_OMEGA,) + rest), False)
        for rest in [(ZERO, ZERO), (ONE, ZERO)]:
            self.assertIs(is_below(0, row, (OMEGA,) + rest), True)
            self.assertIs(is_below(0, (OMEGA,) + rest, row), False)

    def test_places_before_the_level_agree(self):
        row = (OMEGA_TO_OMEGA, OMEGA, ONE)
        self.assertIs(is_below(1, row, (OMEGA_TO_OMEGA, THREE, ZERO)), True)
        self.assertIs(is_below(1, row, (OMEGA_TO_OMEGA, ZERO, ZERO)), True)
        self.assertIs(is_below(1, row, (OMEGA, ONE, ZERO)), False)
        self.assertIs(is_below(1, row, (((OMEGA, 2),), THREE, ZERO)), False)
        self.assertIs(is_below(1, row, (OMEGA_TO_OMEGA, OMEGA, ZERO)), False)
        self.assertIs(is_below(2, row, (OMEGA_TO_OMEGA, OMEGA, ZERO)), True)
        self.assertIs(is_below(2, row, (((OMEGA, 2),), OMEGA, ZERO)), False)
        self.assertIs(is_below(2, row, (OMEGA_TO_OMEGA, THREE, ZERO)), False)
        self.assertIs(is_below(2, (TOWER, OMEGA, ONE), (OMEGA_TO_OMEGA, OMEGA, ZERO)), False)

    def test_equal_rows(self):
        for levels in (1, 2, 3):
            for row in ROWS[levels]:
                for level in range(levels):
                    self.assertIs(is_below(level, row, row), False)

    def test_the_first_place_that_differs_is_the_level(self):
        for levels in (1, 2, 3):
            for row in ROWS[levels]:
                for other in ROWS[levels]:
                    places = [at for at in range(levels) if row[at] != other[at]]
                    for level in range(levels):
                        wanted = places[:1] == [level] and other < row
                        self.assertIs(is_below(level, row, other), wanted)

    def test_rows_stay_as_they_are(self):
        for row in ROWS[3]:
            for other in ROWS[3]:
                kept = copy.deepcopy((row, other))
                found = [is_below(level, row, other) for level in range(3)]
                self.assertEqual((row, other), kept)
                self.assertEqual([is_below(level, *kept) for level in range(3)], found)

    def test_by_keyword(self):
        self.assertIs(is_below(level=0, row=(ONE,), other=(ZERO,)), True)
        self.assertIs(is_below(other=(ONE,), row=(ZERO,), level=0), False)


if __name__ == "__main__":
    unittest.main()
