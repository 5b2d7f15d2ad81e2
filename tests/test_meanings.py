import copy
import unittest

from tests.drawn import Drawing, holds, rows_near
from tests.samples import NO_ORDINALS, OMEGA, OMEGA_TWICE, ONE, THREE, TOWER, TWO, ZERO
from vowstair.errors import InvalidLevels, InvalidRow, InvalidStair, LevelsDiffer
from vowstair.meanings import Meaning, both, either
from vowstair.ordinals import natural, plus, successor
from vowstair.rows import is_below, least_row
from vowstair.stairs import tidy

YES = ((ZERO, True),)
NO = ((ZERO, False),)
ALWAYS = {1: YES, 2: ((ZERO, YES),), 3: ((ZERO, ((ZERO, YES),)),)}
NEVER = {1: NO, 2: ((ZERO, NO),), 3: ((ZERO, ((ZERO, NO),)),)}
WRONG_LEVELS = (0, -1, -3, 4, 5, 10**29)


def drawn(many, seed):
    drawing = Drawing(seed)
    for levels in (1, 2, 3):
        for _ in range(many):
            yield Meaning(levels, drawing.stair(levels))


def pairs_drawn(many, seed):
    drawing = Drawing(seed)
    for levels in (1, 2, 3):
        for _ in range(many):
            yield Meaning(levels, drawing.stair(levels)), Meaning(levels, drawing.stair(levels))


def rows_of(*meanings):
    return rows_near(meanings[0].levels, [meaning.stair() for meaning in meanings])


def told_meaning(levels, sentence):
    """The meaning of a sentence without names."""
    word, parts = sentence[0], [told_meaning(levels, part) for part in sentence[1:] if isinstance(part, tuple)]
    if word in ("true", "false"):
        return Meaning.always(levels) if word == "true" else Meaning.never(levels)
    if word == "shown":
        return parts[0].shown(sentence[1])
    if word in ("not", "then"):
        parts[0] = -parts[0]
    if word == "and":
        return parts[0] * parts[1]
    return parts[0] + parts[1] if len(parts) == 2 else parts[0]


class MakingTest(unittest.TestCase):
    def test_levels_are_checked_before_the_stair(self):
        for levels in WRONG_LEVELS:
            for stair in (YES, ALWAYS[2], None, True, "x"):
                with self.assertRaises(InvalidLevels):
                    Meaning(levels, stair)

    def test_the_stair_is_checked(self):
        for levels in (1, 2, 3):
            for stair in (None, True, False, 1, "", (), [], ((ZERO, 1),), ((ONE, True),), [(ZERO, True)], ALWAYS):
                with self.assertRaises(InvalidStair):
                    Meaning(levels, stair)
            for other in {1, 2, 3} - {levels}:
                with self.assertRaises(InvalidStair):
                    Meaning(levels, ALWAYS[other])

    def test_levels_and_tidy_stair(self):
        drawing = Drawing(1)
        for levels in (1, 2, 3):
            for _ in range(50):
                stair = drawing.stair(levels)
                meaning = Meaning(levels, stair)
                self.assertEqual((meaning.levels, meaning.stair()), (levels, tidy(stair)))

    def test_the_example_that_begins_later(self):
        meaning = Meaning(2, (((), (((), True),)), (plus(OMEGA, natural(3)), (((), True), (ONE, False)))))
        wanted = (((), (((), True),)), ((((((), 1),), 2),), (((), True), ((((), 1),), False))))
        self.assertEqual(meaning.stair(), wanted)

    def test_by_keyword(self):
        self.assertEqual(Meaning(stair=YES, levels=1), Meaning(1, YES))

    def test_levels_cannot_be_assigned(self):
        meaning = Meaning(1, YES)
        with self.assertRaises(AttributeError):
            meaning.levels = 2

    def test_repr(self):
        self.assertEqual(repr(Meaning(1, YES)), "Meaning(1 levels, 1 stretches)")
        self.assertEqual(repr(Meaning(2, ((ZERO, YES), (ONE, YES), (OMEGA, NO)))), "Meaning(2 levels, 2 stretches)")
        stair = ((ZERO, ALWAYS[2]), (ONE, NEVER[2]), (TWO, ALWAYS[2]))
        self.assertEqual(repr(Meaning(3, stair)), "Meaning(3 levels, 3 stretches)")

    def test_always_and_never(self):
        for levels in (1, 2, 3):
            self.assertEqual(Meaning.always(levels).stair(), ALWAYS[levels])
            self.assertEqual(Meaning.never(levels).stair(), NEVER[levels])
            self.assertEqual(Meaning.always(levels=levels), Meaning(levels, ALWAYS[levels]))
            self.assertEqual(Meaning.never(levels=levels), Meaning(levels, NEVER[levels]))
            self.assertEqual(Meaning.always(levels).levels, levels)
        for levels in WRONG_LEVELS:
            with self.assertRaises(InvalidLevels):
                Meaning.always(levels)
            with self.assertRaises(InvalidLevels):
                Meaning.never(levels)

    def test_beyond_holds_above_the_ordinal_at_the_place(self):
        for levels in (1, 2, 3):
            for place in range(levels):
                for ordinal in (ZERO, ONE, THREE, OMEGA, plus(OMEGA, TWO), TOWER):
                    meaning = Meaning.beyond(levels, place, ordinal)
                    self.assertEqual(meaning.levels, levels)
                    for row in rows_of(meaning, Meaning.beyond(levels, 0, ordinal)):
                        self.assertIs(row in meaning, row[place] > ordinal)

    def test_beyond_in_stairs(self):
        self.assertEqual(Meaning.beyond(1, 0, TWO).stair(), ((ZERO, False), (THREE, True)))
        self.assertEqual(Meaning.beyond(2, 0, OMEGA).stair(), ((ZERO, NO), (successor(OMEGA), YES)))
        self.assertEqual(Meaning.beyond(2, 1, ZERO).stair(), ((ZERO, ((ZERO, False), (ONE, True))),))
        self.assertEqual(Meaning.beyond(3, 1, ONE).stair(), ((ZERO, ((ZERO, NO), (TWO, YES))),))
        self.assertEqual(Meaning.beyond(3, 2, ZERO).stair(), ((ZERO, ((ZERO, ((ZERO, False), (ONE, True))),)),))
        self.assertEqual(Meaning.beyond(ordinal=ZERO, place=1, levels=2), Meaning.beyond(2, 1, ()))

    def test_beyond_raises_for_levels_and_places(self):
        for levels in WRONG_LEVELS:
            with self.assertRaises(InvalidLevels):
                Meaning.beyond(levels, 0, ZERO)
        for levels in (1, 2, 3):
            for place in (-1, -levels, levels, levels + 1, 10**29):
                with self.assertRaises(InvalidLevels):
                    Meaning.beyond(levels, place, ZERO)


class AskingTest(unittest.TestCase):
    def test_example(self):
        high = Meaning.beyond(2, 1, ())
        wanted = [
            (((), (((), False), ((((), 1),), True))),),
            ((((((), 1),), 1),), (((), 1),)),
            (((), (((), True),)), ((((((), 1),), 1), ((), 1)), (((), False),))),
        ]
        self.assertEqual([high.stair(), high.least(), (-high).shown(0).stair()], wanted)

    def test_least(self):
        for levels in (1, 2, 3):
            self.assertIsNone(Meaning.never(levels).least())
            self.assertEqual(Meaning.always(levels).least(), least_row(levels))
        self.assertEqual(Meaning(1, ((ZERO, False), (OMEGA, True), (OMEGA_TWICE, False))).least(), (OMEGA,))
        self.assertEqual(Meaning.beyond(3, 2, ZERO).least(), (((OMEGA, 1),), OMEGA, ONE))
        self.assertEqual(Meaning.beyond(2, 1, OMEGA).least(), (((plus(OMEGA, ONE), 1),), plus(OMEGA, ONE)))

    def test_least_against_the_rows_near_the_begins(self):
        for meaning in drawn(60, 2):
            rows = sorted([row for row in rows_of(meaning) if holds(meaning.stair(), row)])
            least = meaning.least()
            if least is None:
                self.assertEqual((rows, bool(meaning), meaning), ([], False, Meaning.never(meaning.levels)))
            else:
                self.assertEqual((least, bool(meaning), least in meaning), (rows[0], True, True))

    def test_everywhere(self):
        for levels in (1, 2, 3):
            self.assertIs(Meaning.always(levels).everywhere(), True)
            self.assertIs(Meaning.never(levels).everywhere(), False)
            self.assertIs(Meaning.beyond(levels, 0, ZERO).everywhere(), False)
        self.assertIs(Meaning(2, ((ZERO, YES), (ONE, ((ZERO, True), (ONE, False))), (OMEGA, YES))).everywhere(), True)
        for meaning in drawn(60, 3):
            wanted = all(holds(meaning.stair(), row) for row in rows_of(meaning))
            self.assertIs(meaning.everywhere(), wanted)

    def test_in_the_end(self):
        told = [
            (1, ((ZERO, False), (OMEGA, True)), True), (1, ((ZERO, True), (OMEGA, False)), False), (1, YES, True),
            (2, ((ZERO, NO), (ONE, ((ZERO, False), (TOWER, True)))), True),
            (2, ((ZERO, YES), (ONE, ((ZERO, True), (TOWER, False)))), False),
            (3, ((ZERO, NEVER[2]), (ONE, ((ZERO, NO), (ONE, ((ZERO, False), (ONE, True)))))), True),
            (3, ((ZERO, ALWAYS[2]), (ONE, ((ZERO, YES), (ONE, ((ZERO, True), (ONE, False)))))), False),
        ]
        for levels, stair, wanted in told:
            self.assertIs(Meaning(levels, stair).in_the_end(), wanted)

    def test_in_the_end_of_drawn_meanings(self):
        for meaning in drawn(40, 4):
            step = meaning.stair()
            for _ in range(meaning.levels):
                step = step[-1][1]
            self.assertIs(meaning.in_the_end(), step)

    def test_truth(self):
        for levels in (1, 2, 3):
            self.assertIs(bool(Meaning.never(levels)), False)
            self.assertIs(bool(Meaning.always(levels)), True)
            self.assertIs(bool(Meaning.beyond(levels, levels - 1, OMEGA)), True)

    def test_in_at_rows_near_the_begins(self):
        for meaning in drawn(30, 5):
            for row in rows_of(meaning):
                self.assertIs(row in meaning, holds(meaning.stair(), row))
                self.assertIs(row not in meaning, not holds(meaning.stair(), row))

    def test_in_raises_for_what_is_no_row(self):
        for levels in (1, 2, 3):
            for meaning in (Meaning.always(levels), Meaning.beyond(levels, 0, ONE)):
                wrong = [None, True, 0, 1, "", "0", (), [], list(least_row(levels)), least_row(levels) + (ZERO,)]
                wrong += [least_row(levels)[1:], (ONE,) * levels + (ONE,), (0,) * levels]
                wrong += [(value,) + least_row(levels)[1:] for value in NO_ORDINALS]
                if levels > 1:
                    wrong += [(ONE, ONE, ZERO)[:levels], (OMEGA, TWO, ZERO)[:levels]]
                for value in wrong:
                    with self.subTest(value), self.assertRaises(InvalidRow):
                        value in meaning


class OperatorsTest(unittest.TestCase):
    def test_at_rows_near_the_begins(self):
        for one, other in pairs_drawn(40, 6):
            kept = (one.stair(), other.stair())
            union, common, turned = one + other, one * other, -one
            for row in rows_of(one, other, union, common):
                told = (holds(kept[0], row), holds(kept[1], row))
                self.assertIs(row in union, told[0] or told[1])
                self.assertIs(row in common, told[0] and told[1])
                self.assertIs(row in turned, not told[0])
            self.assertEqual((one.stair(), other.stair()), kept)
            self.assertEqual({union.levels, common.levels, turned.levels}, {one.levels})

    def test_laws(self):
        for one, other in pairs_drawn(60, 7):
            always, never = Meaning.always(one.levels), Meaning.never(one.levels)
            self.assertEqual(-(-one), one)
            self.assertEqual(-(one + other), -one * -other)
            self.assertEqual([one + -one, one * -one], [always, never])
            self.assertEqual([one + never, one * always, one + always, one * never], [one, one, always, never])
            self.assertEqual([one + one, one * one], [one, one])
            self.assertEqual([one + other, one * other], [other + one, other * one])
            self.assertEqual(one * other + one * -other, one)

    def test_lies_in(self):
        for one, other in pairs_drawn(60, 8):
            wanted = all(row not in one or row in other for row in rows_of(one, other))
            self.assertIs(one.lies_in(other), wanted)
            self.assertIs(one.lies_in(other=one + other), True)
            self.assertIs((one * other).lies_in(one), True)
            self.assertIs(one.lies_in(one), True)
            self.assertIs(one.lies_in(Meaning.never(one.levels)), not one)
            self.assertIs(Meaning.always(one.levels).lies_in(one), one.everywhere())

    def test_other_levels(self):
        for levels in (1, 2, 3):
            for other in {1, 2, 3} - {levels}:
                for one in (Meaning.always(levels), Meaning.never(levels)):
                    for two in (Meaning.always(other), Meaning.never(other)):
                        with self.assertRaises(LevelsDiffer):
                            one + two
                        with self.assertRaises(LevelsDiffer):
                            one * two
                        with self.assertRaises(LevelsDiffer):
                            one.lies_in(two)

    def test_equal(self):
        drawing = Drawing(9)
        for one, other in pairs_drawn(60, 10):
            wanted = all((row in one) == (row in other) for row in rows_of(one, other))
            self.assertIs(one == other, wanted)
            self.assertIs(one != other, not wanted)
            self.assertTrue(one == Meaning(one.levels, one.stair()))
        self.assertTrue(Meaning(1, ((ZERO, True), (ONE, True))) == Meaning.always(1))
        self.assertTrue(Meaning(2, drawing.stair(2)) != Meaning(3, drawing.stair(3)))

    def test_meanings_of_other_levels_and_other_values_are_unequal(self):
        for levels in (1, 2, 3):
            for other in {1, 2, 3} - {levels}:
                self.assertFalse(Meaning.always(levels) == Meaning.always(other))
                self.assertTrue(Meaning.never(levels) != Meaning.never(other))
            for value in (None, True, False, 0, 1, "", ALWAYS[levels], least_row(levels), [], {}, Meaning):
                self.assertFalse(Meaning.always(levels) == value)
                self.assertFalse(value == Meaning.always(levels))
                self.assertTrue(Meaning.always(levels) != value)

    def test_either_and_both_without_meanings(self):
        self.assertEqual([either(), both()], [Meaning.never(1), Meaning.always(1)])
        for levels in (1, 2, 3):
            self.assertEqual(either(levels=levels), Meaning.never(levels))
            self.assertEqual(both(levels=levels), Meaning.always(levels))
        for levels in WRONG_LEVELS:
            with self.assertRaises(InvalidLevels):
                either(levels=levels)
            with self.assertRaises(InvalidLevels):
                both(levels=levels)

    def test_either_and_both_of_one_and_several(self):
        for one, other in pairs_drawn(20, 11):
            third = -one + Meaning.beyond(one.levels, 0, OMEGA)
            self.assertEqual([either(one), both(one)], [one, one])
            self.assertEqual([either(one, other), both(one, other)], [one + other, one * other])
            self.assertEqual(either(one, other, third), one + other + third)
            self.assertEqual(both(one, other, third), one * other * third)
            for levels in (1, 2, 3, 0, 17):
                self.assertEqual(either(one, other, levels=levels), one + other)
                self.assertEqual(both(one, levels=levels), one)

    def test_either_and_both_of_other_levels(self):
        meanings = {levels: Meaning.beyond(levels, 0, ONE) for levels in (1, 2, 3)}
        for levels in ((1, 2), (2, 1), (3, 3, 1), (1, 2, 2), (2, 3, 2)):
            given = [meanings[number] for number in levels]
            with self.assertRaises(LevelsDiffer):
                either(*given)
            with self.assertRaises(LevelsDiffer):
                both(*given, levels=levels[0])

    def test_levels_are_passed_by_keyword_alone(self):
        self.assertEqual(either(Meaning.always(2), levels=2), Meaning.always(2))
        with self.assertRaises(TypeError):
            both(meanings=[Meaning.always(2)])


class ShownTest(unittest.TestCase):
    def test_levels_and_rows_are_checked(self):
        for levels in (1, 2, 3):
            meaning = Meaning.beyond(levels, 0, ONE)
            for level in (-1, -levels, levels, levels + 1, 10**29):
                with self.assertRaises(InvalidLevels):
                    meaning.shown(level)
                with self.assertRaises(InvalidLevels):
                    meaning.missing_below(level, least_row(levels))
                with self.assertRaises(InvalidLevels):
                    meaning.missing_below(level, None)
            for level in range(levels):
                least = least_row(levels)
                for row in (None, 0, "", (), list(least), least + (ZERO,), (ONE, ONE, ONE)[:levels + 1]):
                    with self.assertRaises(InvalidRow):
                        meaning.missing_below(level, row)

    def test_shown_at_one_level(self):
        self.assertEqual(Meaning.never(1).shown(0).stair(), ((ZERO, True), (ONE, False)))
        self.assertEqual(Meaning.always(1).shown(0), Meaning.always(1))
        stair = ((ZERO, True), (OMEGA, False), (OMEGA_TWICE, True))
        self.assertEqual(Meaning(1, stair).shown(0).stair(), ((ZERO, True), (successor(OMEGA), False)))

    def test_shown_of_nothing_at_each_level(self):
        self.assertEqual(Meaning.never(2).shown(0).stair(), ((ZERO, YES), (ONE, NO)))
        self.assertEqual(Meaning.never(2).shown(1).stair(), ((ZERO, ((ZERO, True), (ONE, False))),))
        self.assertEqual(Meaning.never(3).shown(2).stair(), ((ZERO, ((ZERO, ((ZERO, True), (ONE, False))),)),))
        self.assertEqual(Meaning.never(3).shown(level=1).stair(), ((ZERO, ((ZERO, YES), (ONE, NO))),))

    def test_missing_below_by_hand(self):
        low = Meaning.beyond(2, 1, ZERO)
        self.assertIsNone(low.missing_below(0, (ZERO, ZERO)))
        self.assertEqual(low.missing_below(0, (OMEGA, ONE)), (ZERO, ZERO))
        self.assertIsNone(low.missing_below(1, (OMEGA, ZERO)))
        self.assertEqual(low.missing_below(1, (OMEGA, ONE)), (OMEGA, ZERO))
        high = -low
        self.assertIsNone(high.missing_below(0, (OMEGA, ZERO)))
        self.assertEqual(high.missing_below(0, (successor(OMEGA), ZERO)), (OMEGA, ONE))
        self.assertEqual(high.missing_below(1, (((TWO, 1),), TWO)), (((TWO, 1),), ONE))
        self.assertIsNone(high.missing_below(row=(((TWO, 1),), ONE), level=1))

    def test_against_all_rows_near_the_begins(self):
        seen = {True: 0, False: 0}
        for meaning in drawn(14, 12):
            kept = meaning.stair()
            rows = rows_of(meaning)
            gaps = sorted([row for row in rows if not holds(kept, row)])
            for level in range(meaning.levels):
                shown = meaning.shown(level)
                self.assertEqual(shown.levels, meaning.levels)
                for row in rows[:: max(1, len(rows) // 150)]:
                    below = [gap for gap in gaps if is_below(level, row, gap)]
                    wanted = below[0] if below else None
                    self.assertEqual(meaning.missing_below(level, row), wanted, (kept, level, row))
                    self.assertIs(row in shown, wanted is None, (kept, level, row))
                    seen[wanted is None] += 1
            self.assertEqual(meaning.stair(), kept)
        self.assertGreater(min(seen.values()), 500)

    def test_rows_of_the_shown_set_and_missing_rows_agree(self):
        for meaning in drawn(14, 13):
            for level in range(meaning.levels):
                shown = meaning.shown(level)
                for row in rows_of(meaning, shown)[::3]:
                    missing = meaning.missing_below(level, row)
                    self.assertIs(row in shown, missing is None)
                    if missing is not None:
                        self.assertTrue(is_below(level, row, missing) and missing not in meaning)

    def test_what_is_shown_of_an_implication(self):
        for one, other in pairs_drawn(50, 14):
            for level in range(one.levels):
                implied = (-one + other).shown(level)
                self.assertTrue((implied * one.shown(level)).lies_in(other.shown(level)))

    def test_a_set_that_holds_wherever_it_is_shown_is_all_rows(self):
        for one, other in pairs_drawn(50, 15):
            for level in range(one.levels):
                shown = one.shown(level)
                self.assertTrue((-shown + one).shown(level).lies_in(shown))
                self.assertIs(shown.lies_in(one), one.everywhere())
                self.assertIs(one.everywhere(), Meaning.always(one.levels).lies_in(one))

    def test_what_is_not_shown_is_shown_at_the_next_level_not_to_be_shown(self):
        for meaning in drawn(60, 16):
            for level in range(meaning.levels - 1):
                shown = meaning.shown(level)
                self.assertTrue((-shown).lies_in((-shown).shown(level + 1)))

    def test_what_is_shown_is_shown_at_the_next_level(self):
        drawing = Drawing(20)
        for levels in (2, 3):
            for _ in range(150):
                meaning = told_meaning(levels, drawing.sentence(levels, [], drawing.randint(2, 25)))
                for level in range(levels - 1):
                    self.assertTrue(meaning.shown(level).lies_in(meaning.shown(level + 1)))

    def test_a_set_that_no_sentence_describes_may_be_shown_and_not_be_so_at_the_next_level(self):
        # All rows but (omega, 0): [9] decides, not [10], which speaks of sentences.
        meaning = Meaning(2, ((ZERO, YES), (OMEGA, ((ZERO, False), (ONE, True))), (successor(OMEGA), YES)))
        row = (OMEGA, ONE)
        self.assertTrue(row in meaning.shown(0))
        self.assertFalse(row in meaning.shown(1))
        self.assertEqual(meaning.missing_below(1, row), (OMEGA, ZERO))

    def test_places_behind_the_level_do_not_matter(self):
        for meaning in drawn(20, 17):
            for level in range(meaning.levels):
                shown = meaning.shown(level)
                told = {}
                for row in rows_of(meaning):
                    told.setdefault(row[:level + 1], set()).add(row in shown)
                self.assertEqual({len(found) for found in told.values()}, {1})

    def test_what_fell_never_stands_again(self):
        for meaning in drawn(20, 18):
            for level in range(meaning.levels):
                shown = meaning.shown(level)
                fallen = {}
                for row in sorted(rows_of(meaning)):
                    if row not in shown:
                        fallen.setdefault(row[:level], row[level])
                    self.assertEqual(row in shown, row[:level] not in fallen)

    def test_the_meaning_stays_as_it_is(self):
        for meaning in drawn(10, 19):
            kept = copy.deepcopy(meaning.stair())
            meaning.shown(0)
            meaning.missing_below(0, least_row(meaning.levels))
            meaning.least(), meaning.everywhere(), meaning.in_the_end(), bool(meaning), repr(meaning), -meaning
            self.assertEqual(meaning.stair(), kept)


if __name__ == "__main__":
    unittest.main()
