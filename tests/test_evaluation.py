import copy
import unittest

from tests.drawn import Drawing
from tests.samples import OMEGA, ONE, ZERO
from vowstair.errors import InvalidLevels, InvalidSentence, LevelsDiffer, UnknownName
from vowstair.evaluation import meaning_of
from vowstair.meanings import Meaning
from vowstair.sentences import FALSE, TRUE

X, Y, Z = ("name", "x"), ("name", "y"), ("name", "z")
LOW = Meaning(2, ((ZERO, ((ZERO, True),)), (OMEGA, ((ZERO, False), (ONE, True)))))
HIGH = Meaning.beyond(2, 1, ONE)
NAMES = [("x", LOW), ("y", HIGH)]


def by_definition(levels, sentence, names):
    word = sentence[0]
    parts = [by_definition(levels, part, names) for part in sentence[1:] if isinstance(part, tuple)]
    return {
        "true": lambda: Meaning.always(levels), "false": lambda: Meaning.never(levels),
        "name": lambda: names[sentence[1]], "not": lambda: -parts[0], "and": lambda: parts[0] * parts[1],
        "or": lambda: parts[0] + parts[1], "then": lambda: -parts[0] + parts[1],
        "shown": lambda: parts[0].shown(sentence[1]),
    }[word]()


class MeaningOfTest(unittest.TestCase):
    def test_constants_at_all_levels(self):
        for levels in (1, 2, 3):
            self.assertEqual(meaning_of(levels, TRUE), Meaning.always(levels))
            self.assertEqual(meaning_of(levels, FALSE), Meaning.never(levels))

    def test_every_kind(self):
        told = [
            (X, LOW), (Y, HIGH), (("not", X), -LOW), (("and", X, Y), LOW * HIGH), (("or", X, Y), LOW + HIGH),
            (("then", X, Y), -LOW + HIGH), (("then", Y, X), -HIGH + LOW), (("shown", 0, X), LOW.shown(0)),
            (("shown", 1, X), LOW.shown(1)), (("shown", 0, ("shown", 1, ("not", Y))), (-HIGH).shown(1).shown(0)),
        ]
        for sentence, wanted in told:
            self.assertEqual(meaning_of(2, sentence, names=NAMES), wanted)

    def test_names_left_out(self):
        self.assertEqual(meaning_of(1, ("shown", 0, FALSE)).stair(), ((ZERO, True), (ONE, False)))
        self.assertEqual(meaning_of(3, ("shown", 2, FALSE)), Meaning.never(3).shown(2))
        self.assertEqual(meaning_of(2, ("not", TRUE), names=()), Meaning.never(2))

    def test_shown_of_shown_by_hand(self):
        # Shown n times, a sentence that stands nowhere stands below the number n.
        sentence = FALSE
        for number in range(1, 8):
            sentence = ("shown", 0, sentence)
            self.assertEqual(meaning_of(1, sentence).stair(), ((ZERO, True), (((ZERO, number),), False)))

    def test_drawn_sentences(self):
        drawing = Drawing(1)
        for levels in (1, 2, 3):
            for _ in range(80):
                names = {name: Meaning(levels, drawing.stair(levels)) for name in "xyz"}
                sentence = drawing.sentence(levels, list("xyz"), drawing.randint(1, 30), free=True)
                wanted = by_definition(levels, sentence, names)
                self.assertEqual(meaning_of(levels, sentence, names=list(names.items())), wanted)
                self.assertEqual(meaning_of(levels, sentence, names=tuple(names.items())), wanted)

    def test_the_later_pair_wins(self):
        self.assertEqual(meaning_of(2, X, names=[("x", HIGH), ("x", LOW)]), LOW)
        self.assertEqual(meaning_of(2, X, names=[("x", LOW), ("y", LOW), ("x", HIGH)]), HIGH)
        other = Meaning.always(3)
        self.assertEqual(meaning_of(2, X, names=[("x", other), ("x", LOW)]), LOW)
        with self.assertRaises(LevelsDiffer):
            meaning_of(2, X, names=[("x", LOW), ("x", other)])

    def test_errors_in_their_order(self):
        other = Meaning.always(1)
        for levels in (0, -1, 4, 10**29):
            with self.assertRaises(InvalidLevels):
                meaning_of(levels, ("nothing",), names=[("x", other)])
        wrong = [None, ("nothing",), ("shown", 2, X), ("and", X, ("name", "X")), ["name", "x"], ("shown", True, X)]
        for value in wrong:
            with self.assertRaises(InvalidSentence) as held:
                meaning_of(2, value, names=[("x", other)])
            self.assertEqual(held.exception.index, 0)

    def test_the_first_wrong_name_decides(self):
        other = Meaning.always(3)
        given = [("x", other), ("z", LOW)]
        for sentence, wanted in (
            (("and", X, Y), None), (("and", Y, X), "y"), (("or", Z, ("shown", 0, Y)), "y"), (("then", Z, X), None),
            (("and", ("shown", 1, ("name", "w")), Y), "w"), (("and", ("name", "w"), X), "w"),
        ):
            with self.subTest(sentence), self.assertRaises((UnknownName, LevelsDiffer)) as held:
                meaning_of(2, sentence, names=given)
            self.assertEqual(getattr(held.exception, "name", None), wanted)
            self.assertEqual(held.exception.code, "LevelsDiffer" if wanted is None else "UnknownName")

    def test_names_that_do_not_occur_are_not_asked_for(self):
        self.assertEqual(meaning_of(2, X, names=[("x", LOW), ("y", Meaning.always(1))]), LOW)
        self.assertEqual(meaning_of(2, TRUE, names=[("y", Meaning.always(1))]), Meaning.always(2))

    def test_arguments_stay_as_they_are(self):
        names = [("x", LOW), ("x", HIGH)]
        stairs = [LOW.stair(), HIGH.stair()]
        sentence = ("and", ("shown", 0, X), ("not", X))
        kept = copy.deepcopy(sentence)
        meaning_of(sentence=sentence, levels=2, names=names)
        self.assertEqual((names, sentence), ([("x", LOW), ("x", HIGH)], kept))
        self.assertEqual([LOW.stair(), HIGH.stair()], stairs)

    def test_sentences_nested_deep(self):
        sentence = FALSE
        for _ in range(250):
            sentence = ("shown", 0, ("not", sentence))
        self.assertEqual(meaning_of(1, sentence), meaning_of(1, ("shown", 0, ("not", sentence))))
        self.assertEqual(meaning_of(2, ("not", ("not", ("shown", 1, FALSE)))), Meaning.never(2).shown(1))


if __name__ == "__main__":
    unittest.main()
