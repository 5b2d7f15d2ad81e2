import copy
import unittest

from tests.samples import (
    LONG, NO_ORDINALS, OMEGA, OMEGA_AND_ONE, OMEGA_SQUARED, OMEGA_TO_OMEGA, OMEGA_TWICE,
    ONE, THREE, TOWER, TWO, ZERO, small, tower, wide,
)
from vowstair import ordinals
from vowstair.ordinals import (
    end_limit, end_of, is_ordinal, natural, omega_power, plus, raised, successor,
)

FIVE = ((ZERO, 5),)


def spoiled_counts(exponent, count):
    for worth in (0, -1, -count, True, False, None, "", "1", (), (count,), [count]):
        yield (exponent, worth)


def spoiled_terms(term):
    """Values that are no term in the place of a right one, and what they spoil inside."""
    exponent, count = term
    yield from (None, True, 1, "", "ab", (), [], list(term), (exponent,), (exponent, count, 1), (count, exponent))
    yield from spoiled_counts(exponent, count)
    for inner in spoiled(exponent):
        yield (inner, count)


def spoiled(ordinal):
    """Values that are no ordinals and differ from an ordinal at one place, at any depth."""
    yield from (None, True, False, 0, 1, "", "w", [], list(ordinal), (ordinal,), ordinal + (None,), (None,) + ordinal)
    for at, term in enumerate(ordinal):
        before, behind = ordinal[:at], ordinal[at + 1:]
        for inner in spoiled_terms(term):
            yield before + (inner,) + behind
        yield before + (term, term) + behind
        if at > 0:
            yield ordinal[:at - 1] + (term, ordinal[at - 1]) + behind


class IsOrdinalTest(unittest.TestCase):
    def test_ordinals(self):
        for value in small() + wide() + [tower(7), tower(19), natural(10**30 - 1)]:
            with self.subTest(value):
                self.assertIs(is_ordinal(value), True)

    def test_twelve_terms_and_more(self):
        for many in (12, 13, 30):
            exponents = [natural(number) for number in range(many - 1, -1, -1)]
            terms = [(exponent, 10**29) for exponent in exponents]
            self.assertIs(is_ordinal(tuple(terms)), True)
            self.assertIs(is_ordinal(tuple(terms[::-1])), False)

    def test_values_that_are_none(self):
        for value in NO_ORDINALS:
            with self.subTest(value):
                self.assertIs(is_ordinal(value), False)

    def test_one_wrong_place_at_any_depth(self):
        for ordinal in (ONE, OMEGA_AND_ONE, LONG, tower(6), ((LONG, 2), (TOWER, 1), (ONE, 3))):
            for value in spoiled(ordinal):
                with self.subTest(value):
                    self.assertIs(is_ordinal(value), False)

    def test_values_nested_forty_deep(self):
        self.assertIs(is_ordinal(tower(20)), True)
        for leaf in NO_ORDINALS:
            with self.subTest(leaf):
                self.assertIs(is_ordinal(tower(18, leaf)), False)
        deep = ()
        for _ in range(40):
            deep = (deep,)
        self.assertIs(is_ordinal(deep), False)
        self.assertIs(is_ordinal(((deep, 1),)), False)
        self.assertIs(is_ordinal(((ZERO, deep),)), False)
        self.assertIs(is_ordinal(((ONE, 1), (deep, 1))), False)

    def test_exponents_of_great_ordinals_that_do_not_descend(self):
        self.assertIs(is_ordinal(((tower(9), 1), (tower(8), 1))), True)
        self.assertIs(is_ordinal(((tower(8), 1), (tower(9), 1))), False)
        self.assertIs(is_ordinal(((tower(9), 2), (tower(9), 1))), False)
        self.assertIs(is_ordinal(((((tower(8), 1), (tower(9), 1)), 1),)), False)

    def test_by_keyword(self):
        self.assertIs(is_ordinal(value=LONG), True)
        self.assertIs(is_ordinal(value=list(LONG)), False)

    def test_values_stay_as_they_are(self):
        for value in NO_ORDINALS + [[[1, ["x"]], None], ([[]], 1)]:
            kept = copy.deepcopy(value)
            is_ordinal(value)
            self.assertEqual(value, kept)

    def test_the_order_of_tuples_is_that_of_ordinals(self):
        ascending = [ZERO, ONE, TWO, OMEGA, OMEGA_AND_ONE, OMEGA_TWICE, OMEGA_SQUARED, OMEGA_TO_OMEGA, TOWER]
        self.assertEqual(sorted(ascending[::-1]), ascending)
        self.assertEqual(sorted(small()), small())


class MakingTest(unittest.TestCase):
    def test_constants(self):
        found = [ordinals.ZERO, ordinals.ONE, ordinals.OMEGA]
        self.assertEqual(found, [(), (((), 1),), (((((), 1),), 1),)])
        for constant in found:
            self.assertIs(is_ordinal(constant), True)

    def test_natural(self):
        self.assertEqual([natural(0), natural(1), natural(5)], [ZERO, ONE, (((), 5),)])
        self.assertEqual(natural(10**30 - 1), (((), 10**30 - 1),))
        self.assertEqual(natural(number=2), TWO)

    def test_naturals_ascend_by_successors(self):
        for number in range(20):
            self.assertEqual(successor(natural(number)), natural(number + 1))
            self.assertLess(natural(number), natural(number + 1))

    def test_omega_power(self):
        self.assertEqual(omega_power(ZERO), ONE)
        self.assertEqual(omega_power(ONE), OMEGA)
        self.assertEqual(omega_power(OMEGA), OMEGA_TO_OMEGA)
        self.assertEqual(omega_power(LONG), ((LONG, 1),))

    def test_omega_power_many_times(self):
        for exponent in wide():
            self.assertEqual(omega_power(exponent, times=0), ZERO)
            self.assertEqual(omega_power(exponent, times=1), omega_power(exponent))
            self.assertEqual(omega_power(exponent, times=3), ((exponent, 3),))
            once = omega_power(exponent)
            self.assertEqual(omega_power(exponent, times=3), plus(plus(once, once), once))

    def test_omega_power_by_keyword(self):
        self.assertEqual(omega_power(exponent=ONE, times=2), OMEGA_TWICE)
        with self.assertRaises(TypeError):
            omega_power(ONE, 2)


class PlusTest(unittest.TestCase):
    def test_zero_at_either_side(self):
        self.assertEqual(plus(ZERO, ZERO), ZERO)
        for ordinal in wide():
            self.assertEqual(plus(ordinal, ZERO), ordinal)
            self.assertEqual(plus(ZERO, ordinal), ordinal)

    def test_equal_exponents_are_counted_together(self):
        self.assertEqual(plus(TWO, THREE), FIVE)
        self.assertEqual(plus(OMEGA, OMEGA), OMEGA_TWICE)
        self.assertEqual(plus(natural(10**29), natural(10**29)), natural(2 * 10**29))
        self.assertEqual(plus(OMEGA_AND_ONE, OMEGA_AND_ONE), ((ONE, 2), (ZERO, 1)))
        self.assertEqual(plus(((TWO, 3), (ONE, 4)), ((TWO, 2), (ZERO, 7))), ((TWO, 5), (ZERO, 7)))

    def test_lesser_terms_are_swallowed(self):
        self.assertEqual(plus(ONE, OMEGA), OMEGA)
        self.assertEqual(plus(((ONE, 9), (ZERO, 9)), OMEGA_SQUARED), OMEGA_SQUARED)
        self.assertEqual(plus(LONG, TOWER), ((OMEGA_TO_OMEGA, 3),))
        self.assertEqual(plus(LONG, ((LONG, 1),)), ((LONG, 1),))
        self.assertEqual(plus(LONG, OMEGA_TO_OMEGA), ((OMEGA_TO_OMEGA, 2), (((TWO, 1), (ZERO, 5)), 3),
                                                      (OMEGA_AND_ONE, 1), (OMEGA, 1)))

    def test_terms_are_kept_and_continued(self):
        self.assertEqual(plus(OMEGA, ONE), OMEGA_AND_ONE)
        self.assertEqual(plus(OMEGA_SQUARED, OMEGA_AND_ONE), ((TWO, 1), (ONE, 1), (ZERO, 1)))
        self.assertEqual(plus(((THREE, 2), (ONE, 1)), ((TWO, 1), (ZERO, 4))), ((THREE, 2), (TWO, 1), (ZERO, 4)))

    def test_the_sum_counts_on_from_the_first_ordinal(self):
        # These properties determine the sum: it grows with the second ordinal
        # and leaves out nothing from the first one on.
        numbers = small()
        for one in numbers:
            reached = [plus(one, other) for other in numbers]
            for at, total in enumerate(reached):
                self.assertTrue(is_ordinal(total))
                self.assertEqual(sorted(set(reached[:at + 1])), reached[:at + 1])
                between = [number for number in numbers if one <= number < total]
                self.assertEqual([number for number in between if number not in reached[:at]], [])

    def test_sums_of_three(self):
        for one in small()[::4]:
            for other in wide()[::3]:
                for third in wide()[::5]:
                    self.assertEqual(plus(plus(one, other), third), plus(one, plus(other, third)))
                    self.assertEqual(plus(plus(other, one), third), plus(other, plus(one, third)))

    def test_by_keyword(self):
        self.assertEqual(plus(one=OMEGA, other=ONE), OMEGA_AND_ONE)
        self.assertEqual(plus(other=OMEGA, one=ONE), OMEGA)


class ArgumentsTest(unittest.TestCase):
    def test_ordinals_stay_as_they_are(self):
        for one in wide():
            for other in small():
                kept = copy.deepcopy((one, other))
                omega_power(one, times=2)
                plus(one, other)
                plus(other, one)
                raised(one, other)
                end_limit(one, plus(one, successor(other)))
                self.assertEqual((one, other), kept)

    def test_equal_calls_return_equal_results(self):
        for one in wide():
            for other in small():
                again, behind = copy.deepcopy(one), plus(one, successor(other))
                self.assertEqual(plus(one, other), plus(again, other))
                self.assertEqual(raised(one, other), raised(again, other))
                self.assertEqual(end_limit(one, behind), end_limit(again, behind))


class SuccessorTest(unittest.TestCase):
    def test_successor(self):
        self.assertEqual(successor(ZERO), ONE)
        self.assertEqual(successor(natural(10**29)), natural(10**29 + 1))
        self.assertEqual(successor(OMEGA), OMEGA_AND_ONE)
        self.assertEqual(successor(OMEGA_AND_ONE), ((ONE, 1), (ZERO, 2)))
        self.assertEqual(successor(ordinal=TOWER), ((OMEGA_TO_OMEGA, 1), (ZERO, 1)))

    def test_nothing_lies_between(self):
        for ordinal in wide():
            following = successor(ordinal)
            self.assertTrue(is_ordinal(following))
            self.assertLess(ordinal, following)
            self.assertEqual([other for other in wide() + small() if ordinal < other < following], [])


class EndTest(unittest.TestCase):
    def test_end_of(self):
        self.assertEqual(end_of(ZERO), ZERO)
        self.assertEqual([end_of(ONE), end_of(FIVE), end_of(OMEGA_AND_ONE), end_of(LONG)], [ZERO] * 4)
        self.assertEqual([end_of(OMEGA), end_of(OMEGA_TWICE)], [ONE] * 2)
        self.assertEqual(end_of(((OMEGA, 1), (TWO, 3))), TWO)
        self.assertEqual(end_of(ordinal=TOWER), OMEGA_TO_OMEGA)

    def test_end_of_powers_and_sums(self):
        for exponent in wide():
            self.assertEqual(end_of(omega_power(exponent, times=2)), exponent)
            for other in small():
                self.assertEqual(end_of(plus(other, omega_power(exponent))), exponent)


class RaisedTest(unittest.TestCase):
    def test_the_example(self):
        self.assertEqual(raised(natural(5), ONE), OMEGA)
        self.assertEqual(raised(plus(OMEGA, ONE), ONE), (((((), 1),), 2),))

    def test_great_enough_already(self):
        for ordinal in wide():
            self.assertEqual(raised(ordinal, ZERO), ordinal)
            self.assertEqual(raised(ordinal, end_of(ordinal)), ordinal)
        self.assertEqual(raised(TOWER, THREE), TOWER)
        self.assertEqual(raised(OMEGA_TO_OMEGA, OMEGA), OMEGA_TO_OMEGA)

    def test_zero(self):
        self.assertEqual(raised(ZERO, ZERO), ZERO)
        self.assertEqual(raised(ZERO, ONE), OMEGA)
        self.assertEqual(raised(ZERO, LONG), ((LONG, 1),))

    def test_ends_among_the_exponents_and_others(self):
        ordinal = ((OMEGA, 2), (THREE, 4), (ONE, 5), (ZERO, 6))
        self.assertEqual(raised(ordinal, ONE), ((OMEGA, 2), (THREE, 4), (ONE, 6)))
        self.assertEqual(raised(ordinal, TWO), ((OMEGA, 2), (THREE, 4), (TWO, 1)))
        self.assertEqual(raised(ordinal, THREE), ((OMEGA, 2), (THREE, 5)))
        self.assertEqual(raised(ordinal, natural(4)), ((OMEGA, 2), (natural(4), 1)))
        self.assertEqual(raised(ordinal, OMEGA), ((OMEGA, 3),))
        self.assertEqual(raised(ordinal, OMEGA_AND_ONE), ((OMEGA_AND_ONE, 1),))

    def test_ends_of_one_more_and_one_less(self):
        ordinal = ((OMEGA, 1), (TWO, 1))
        found = [raised(ordinal, end) for end in (ONE, TWO, THREE)]
        self.assertEqual(found, [ordinal, ordinal, ((OMEGA, 1), (THREE, 1))])

    def test_it_is_the_least_such_ordinal(self):
        numbers = sorted(set(small() + wide()))
        ends = [ZERO, ONE, TWO, THREE, natural(9), OMEGA, OMEGA_AND_ONE, plus(OMEGA, TWO), OMEGA_TWICE]
        for ordinal in numbers:
            for end in ends:
                found = raised(ordinal, end)
                self.assertTrue(is_ordinal(found))
                self.assertLessEqual(ordinal, found)
                self.assertLessEqual(end, end_of(found))
                near = [number for number in numbers if ordinal <= number < found]
                near = near + [plus(ordinal, omega_power(other)) for other in ends]
                lesser = [number for number in near if number < found and end_of(number) >= end]
                self.assertEqual(lesser, [])

    def test_by_keyword(self):
        self.assertEqual(raised(end=ONE, ordinal=FIVE), OMEGA)


class EndLimitTest(unittest.TestCase):
    def test_the_example(self):
        self.assertEqual(end_limit(natural(5), plus(OMEGA, ONE)), (((), 2),))

    def test_just_above_low(self):
        for low in wide():
            self.assertEqual(end_limit(low, successor(low)), successor(end_of(low)))

    def test_finite(self):
        self.assertEqual([end_limit(ZERO, ONE), end_limit(ZERO, FIVE), end_limit(TWO, FIVE)], [ONE] * 3)
        self.assertEqual([end_limit(ZERO, OMEGA), end_limit(FIVE, OMEGA)], [ONE] * 2)

    def test_powers_that_are_reached_and_not_reached(self):
        self.assertEqual(end_limit(ZERO, OMEGA_AND_ONE), TWO)
        self.assertEqual(end_limit(ZERO, OMEGA_SQUARED), TWO)
        self.assertEqual(end_limit(ZERO, successor(OMEGA_SQUARED)), THREE)
        self.assertEqual(end_limit(ZERO, OMEGA_TO_OMEGA), OMEGA)
        self.assertEqual(end_limit(ZERO, successor(OMEGA_TO_OMEGA)), OMEGA_AND_ONE)
        self.assertEqual(end_limit(FIVE, TOWER), OMEGA_TO_OMEGA)

    def test_an_end_of_low_that_is_greater_than_those_behind(self):
        self.assertEqual(end_limit(OMEGA_SQUARED, plus(OMEGA_SQUARED, ONE)), THREE)
        self.assertEqual(end_limit(OMEGA_SQUARED, plus(OMEGA_SQUARED, OMEGA_TWICE)), THREE)
        self.assertEqual(end_limit(OMEGA_TO_OMEGA, plus(OMEGA_TO_OMEGA, OMEGA_SQUARED)), OMEGA_AND_ONE)

    def test_counts_that_differ(self):
        self.assertEqual(end_limit(successor(OMEGA), OMEGA_TWICE), ONE)
        self.assertEqual(end_limit(successor(OMEGA), ((ONE, 3),)), TWO)
        self.assertEqual(end_limit(OMEGA, OMEGA_TWICE), TWO)
        self.assertEqual(end_limit(((TWO, 1), (ZERO, 1)), ((TWO, 2),)), TWO)
        self.assertEqual(end_limit(((TWO, 1), (ZERO, 1)), ((TWO, 2), (ZERO, 1))), THREE)
        self.assertEqual(end_limit(((TWO, 5), (ONE, 9)), ((TWO, 6),)), TWO)

    def test_far_above_low(self):
        self.assertEqual(end_limit(FIVE, LONG), successor(OMEGA_TO_OMEGA))
        self.assertEqual(end_limit(FIVE, ((LONG, 1),)), LONG)
        self.assertEqual(end_limit(FIVE, ((LONG, 1), (ONE, 1))), successor(LONG))

    def test_it_is_the_least_such_ordinal(self):
        numbers = sorted(set(small() + wide()))
        for at, low in enumerate(numbers):
            for behind in numbers[at + 1:]:
                limit = end_limit(low, behind)
                ends = [end_of(number) for number in numbers if low <= number < behind]
                self.assertLess(max(ends), limit)
                # A lesser limit would be wrong: its power, behind low, is less
                # than behind, or the end of low itself is in its way.
                for lesser in [number for number in numbers if number < limit][-6:]:
                    power = plus(low, omega_power(lesser))
                    self.assertTrue(power < behind or end_of(low) >= lesser, (low, behind, limit, lesser))

    def test_by_keyword(self):
        self.assertEqual(end_limit(behind=OMEGA_AND_ONE, low=FIVE), TWO)


if __name__ == "__main__":
    unittest.main()
