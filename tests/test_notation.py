import itertools
import unittest

from tests.drawn import Drawing
from tests.samples import (
    LONG, OMEGA, OMEGA_AND_ONE, OMEGA_SQUARED, OMEGA_TO_OMEGA, OMEGA_TWICE, ONE, THREE, TOWER, TWO, ZERO, small, tower,
    wide,
)
from tests.texts import RESERVED, ascending, ordinal_told, row_told, sentence_told, spoilt
from vowstair.books import Book
from vowstair.errors import ParseError, VowError
from vowstair.notation import (
    format_ordinal, format_row, format_sentence, parse_ordinal, parse_row, parse_sentence,
)
from vowstair.ordinals import is_ordinal
from vowstair.plain import plain
from vowstair.rows import is_row
from vowstair.sentences import FALSE, TRUE, is_sentence, nodes_of

X, Y, ME = ("name", "x"), ("name", "y"), ("name", "me")
FIVE_OMEGA = ((ONE, 5),)


class NotationCase(unittest.TestCase):
    def assert_no_text(self, call, *values):
        with self.assertRaises(ParseError, msg=values) as held:
            call(*values)
        self.assertEqual((held.exception.line, held.exception.code), (0, "ParseError"))
        self.assertIsInstance(held.exception, VowError)

    def parsed(self, call, *values):
        """What a call returns, or None where it raises ParseError(0)."""
        try:
            return call(*values)
        except ParseError as error:
            self.assertEqual(error.line, 0)
            return None


ORDINALS = {
    "0": ZERO, "1": ONE, "2": TWO, "3": THREE, "10": ((ZERO, 10),), "w": OMEGA, "w*2": OMEGA_TWICE, "w*5": FIVE_OMEGA,
    "w+1": OMEGA_AND_ONE, "w*2+3": ((ONE, 2), (ZERO, 3)), "w^2": OMEGA_SQUARED, "w^3": ((THREE, 1),),
    "w^10*10": ((((ZERO, 10),), 10),), "w^2*7+w+4": ((TWO, 7), (ONE, 1), (ZERO, 4)), "w^(w)": OMEGA_TO_OMEGA,
    "w^(w)*4": ((OMEGA, 4),), "w^(w+1)": ((OMEGA_AND_ONE, 1),), "w^(w*2)": ((OMEGA_TWICE, 1),),
    "w^(w^2)": ((OMEGA_SQUARED, 1),), "w^(w^(w))": TOWER, "w^(w+1)+w^(w)+w^2+w+1":
        ((OMEGA_AND_ONE, 1), (OMEGA, 1), (TWO, 1), (ONE, 1), (ZERO, 1)),
    "w^(w^(w)*2+1)*3+5": ((((OMEGA, 2), (ZERO, 1)), 3), (ZERO, 5)),
    "w^(w^(w))*2+w^(w^2+5)*3+w^(w+1)+w*4+1" + "0" * 29: LONG,
    "9" * 30: ((ZERO, 10**30 - 1),), "w^" + "9" * 30 + "*" + "8" * 30: ((((ZERO, 10**30 - 1),), int("8" * 30)),),
}
NO_ORDINALS = [
    "", " ", "\n", "00", "01", "007", "-1", "+1", "-0", "+0", "1.0", "x", "W", "ww", "w w", "omega", "()", "(1)", "(w)",
    "(0)", "w()", "w(2)", "^", "w^", "^2", "w^^2", "2w", "w2", "w*", "*2", "w**2", "w*1", "w*0", "w*02", "w*-2", "w*+2",
    "w*w", "2*w", "w*2*2", "2*2", "w^0", "w^1", "w^00", "w^02", "w^-2", "w^+2", "w^2^2", "w^w", "w^(3)", "w^(0)",
    "w^(1)", "w^(2)*2", "w^(w", "w^w)", "w^()", "w^(w))", "w^((w))", "(w^(w))", "w^(w)(w)", "w^( w)", "w^(w )", "w ^2",
    "w^ 2", " w", "w ", "w\n", "\nw", "w + 1", "w +1", "w+ 1", "w *2", "w* 2", "1 ", " 1", "+", "+w", "w+", "w++1",
    "w+w", "1+1", "1+w", "w+w^2", "w^2+w^2", "w^(w)+w^(w)", "w+1+1", "w^2+w+w", "w+0", "0+w", "0+0", "0+1", "w^2+0+1",
    "w^(w+0)", "w^(0+w)", "w^(1+w)", "w^(w+w)", "w^(w)+w^(w+1)", "w^(w*1)", "w^(w^1)", "w^(w^(2))", "w,1", "1,0",
    "w^{2}",
    "w*2+03", "0*2", "0^2", "1^2", "1*1", "0w", "1e3", "1_0", "w^[w]", "w^w^w", "w^(w)^2", "w^(w)w", "w^2w", "w*2w",
    "9" * 31, "1" + "0" * 30, "w*" + "9" * 31, "w^" + "9" * 31, "0" * 30 + "1", "9" * 5000, "w^" + "1" * 7000,
    "w+" * 150, "w^(w" * 3,
]


class OrdinalTest(NotationCase):
    def test_the_example(self):
        found = [parse_ordinal("w*2+3"), format_ordinal((((((((), 1),), 1),), 4),)),
                 parse_sentence(1, "(not x and shown 0 y)")]
        wanted = [(((((), 1),), 2), ((), 3)), 'w^(w)*4', ('and', ('not', ('name', 'x')), ('shown', 0, ('name', 'y')))]
        self.assertEqual(found, wanted)

    def test_texts(self):
        for text, ordinal in ORDINALS.items():
            with self.subTest(text):
                self.assertEqual(format_ordinal(ordinal), text)
                self.assertEqual(parse_ordinal(text), ordinal)
                self.assertTrue(is_ordinal(parse_ordinal(text)))
                self.assertEqual(ordinal_told(text), ordinal)

    def test_by_keyword(self):
        self.assertEqual(format_ordinal(ordinal=OMEGA), "w")
        self.assertEqual(parse_ordinal(text="w"), OMEGA)

    def test_small_and_wide_ordinals(self):
        for ordinal in small() + wide():
            text = format_ordinal(ordinal)
            self.assertEqual((parse_ordinal(text), ordinal_told(text)), (ordinal, ordinal))

    def test_drawn_ordinals_up_to_three_deep(self):
        drawing = Drawing(31)
        for _ in range(1500):
            ordinal = drawn_ordinal(drawing, 3)
            text = format_ordinal(ordinal)
            self.assertEqual((parse_ordinal(text), ordinal_told(text)), (ordinal, ordinal), text)

    def test_six_deep_with_twelve_terms(self):
        for height in range(4, 8):
            exponents = [tower(height)] + wide()[11:0:-1]
            ordinal = tuple([(exponent, 10**29) for exponent in exponents])
            self.assertTrue(len(ordinal) == 12 and is_ordinal(ordinal))
            self.assertEqual(parse_ordinal(format_ordinal(ordinal)), ordinal)

    def test_other_texts(self):
        for text in NO_ORDINALS:
            with self.subTest(text):
                self.assert_no_text(parse_ordinal, text)
                self.assertIsNone(ordinal_told(text))

    def test_nested_as_deep_as_texts_may_be(self):
        for depth in (59, 60, 64):
            text = "w^(" * depth + "w" + ")" * depth
            found = parse_ordinal(text)
            self.assertTrue(is_ordinal(found))
            self.assertEqual((found, format_ordinal(found)), (tower(depth + 2), text))
            self.assertEqual(parse_ordinal("w^(" * depth + "w+1" + ")*2+w+3" * depth)[-1], (ZERO, 3))

    def test_broken_as_deep(self):
        low, high = "w^(" * 60, ")" * 60
        for text in (low, low + "w", low + high, low + "w" + high[1:], low + "w" + high + ")", low + "2" + high,
                     low + "0" + high, low + "w+w" + high, low + "w+0" + high, low + "w*1" + high, low + "w " + high,
                     low + "w^1" + high, low + "w^(3)" + high, "(" * 60 + "w" + high, low + "w" + high + "*1", high,
                     low + "w" + ")+w^(w)" * 60 + "+w^(w)", low + "W" + high, low + "w" + high + "\n"):
            self.assert_no_text(parse_ordinal, text)

    def test_spoilt_texts(self):
        drawing = Drawing(32)
        parsed = 0
        for _ in range(60):
            for text in spoilt(format_ordinal(drawn_ordinal(drawing, 3)), "0123w^*+() ,W-\n"):
                found = self.parsed(parse_ordinal, text)
                self.assertEqual(found, ordinal_told(text), text)
                if found is not None:
                    parsed += 1
                    self.assertEqual(format_ordinal(found), text)
        self.assertGreater(parsed, 500)

    def test_all_short_texts(self):
        for length in range(7):
            for signs in itertools.product("02w^*+()" if length < 6 else "2w^()", repeat=length):
                text = "".join(signs)
                self.assertEqual(self.parsed(parse_ordinal, text), ordinal_told(text), text)


def drawn_ordinal(drawing, deep):
    """An ordinal whose exponents are nested at most so deep."""
    if deep == 0:
        return drawing.choice([ZERO, ONE, TWO, THREE, ((ZERO, 10**29),), ((ZERO, 12),)])
    exponents = []
    for _ in range(drawing.choice([0, 1, 1, 2, 3])):
        exponent = drawn_ordinal(drawing, drawing.randrange(deep))
        if exponent not in exponents:
            exponents.append(exponent)
    return tuple([(exponent, drawing.choice([1, 1, 2, 10, 10**29])) for exponent in ascending(exponents)[::-1]])


class RowTest(NotationCase):
    def test_texts(self):
        rows = {
            "0": (ZERO,), "w^(w)*4": (((OMEGA, 4),),), "0,0": (ZERO, ZERO), "w,1": (OMEGA, ONE),
            "w^2,0": (OMEGA_SQUARED, ZERO),
            "w*2,1": (OMEGA_TWICE, ONE), "w^(w),w": (OMEGA_TO_OMEGA, OMEGA), "w^(w),w,1": (OMEGA_TO_OMEGA, OMEGA, ONE),
            "w^(w),5,0": (OMEGA_TO_OMEGA, ((ZERO, 5),), ZERO), "0,0,0": (ZERO, ZERO, ZERO),
            "5,0,0": (((ZERO, 5),), ZERO, ZERO),
            "w^(w^(w)),w^(w),w": (TOWER, OMEGA_TO_OMEGA, OMEGA),
        }
        for text, row in rows.items():
            with self.subTest(text):
                self.assertTrue(is_row(len(row), row))
                self.assertEqual((format_row(row), parse_row(len(row), text)), (text, row))
                for levels in {1, 2, 3} - {len(row)}:
                    self.assert_no_text(parse_row, levels, text)
        self.assertEqual(parse_row(text="w,1", levels=2), (OMEGA, ONE))
        self.assertEqual(format_row(row=(OMEGA, ONE)), "w,1")

    def test_other_texts(self):
        for levels, texts in {
            1: ["", ",", "0,", ",0", "0,0", " 0", "0 ", "0\n", "x", "w^1", "(0)"],
            2: ["", ",", "0", "w", "w,", ",1", "w,1,", ",w,1", "w,,1", "w, 1", "w ,1", " w,1", "w,1 ", "w;1", "w 1",
                "w,2",
                "1,1", "0,1", "5,w", "w+1,1", "w^2,3", "w^2,w", "w^(w),w+1", "w,01", "w,1\n", "w^1,1", "(w,1)", "w,1,0",
                "w.1", "w,-1"],
            3: ["", ",,", "0,0", "0,0,", ",0,0", "0,,0", "0, 0,0", "w,1,1", "w,1,2", "w^(w),w,2", "w^(w),w^2,1",
                "w^(w),w+1,0", "0,0,1", "w,0,1", "w^(w),w,1,0", "w^(w);w;1", "w^(w),w,1 "],
        }.items():
            for text in texts:
                with self.subTest(levels, text=text):
                    self.assertIsNone(row_told(levels, text))
                    self.assert_no_text(parse_row, levels, text)

    def test_nested_as_deep_as_texts_may_be(self):
        text = "w^(" * 60 + "w" + ")" * 60
        self.assertEqual(parse_row(2, text + "," + text[3:-1]), (tower(62), tower(61)))
        self.assertEqual(format_row((tower(62), tower(61))), text + "," + text[3:-1])
        self.assert_no_text(parse_row, 2, text + "," + text)

    def test_spoilt_texts(self):
        drawing = Drawing(33)
        parsed = 0
        for at in range(24):
            row = drawn_row(drawing, 1 + at % 3)
            self.assertEqual(parse_row(len(row), format_row(row)), row)
            for text in spoilt(format_row(row), "012w,+ "):
                for levels in (1, 2, 3):
                    found = self.parsed(parse_row, levels, text)
                    self.assertEqual(found, row_told(levels, text), text)
                    if found is not None:
                        parsed += 1
                        self.assertEqual(format_row(found), text)
        self.assertGreater(parsed, 500)


def drawn_row(drawing, levels):
    row = (drawn_ordinal(drawing, 3),)
    while len(row) < levels:
        end = row[-1][-1][0] if row[-1] else ZERO
        lower = [ordinal for ordinal in small() if ordinal <= end]
        row += (end if drawing.random() < 0.5 else drawing.choice(lower),)
    return row


SENTENCES = {
    "true": TRUE, "false": FALSE, "x": X, "me": ME, "abcdef": ("name", "abcdef"), "truex": ("name", "truex"),
    "nota": ("name", "nota"), "nor": ("name", "nor"), "shows": ("name", "shows"), "not x": ("not", X),
    "not not true": ("not", ("not", TRUE)), "shown 0 x": ("shown", 0, X),
    "shown 0 shown 0 x": ("shown", 0, ("shown", 0, X)),
    "not shown 0 not x": ("not", ("shown", 0, ("not", X))), "(x and y)": ("and", X, Y), "(x or y)": ("or", X, Y),
    "(x then y)": ("then", X, Y), "(true and false)": ("and", TRUE, FALSE), "not (x or y)": ("not", ("or", X, Y)),
    "(not x and shown 0 y)": ("and", ("not", X), ("shown", 0, Y)), "((x and y) or x)": ("or", ("and", X, Y), X),
    "(x and (y or x))": ("and", X, ("or", Y, X)),
    "((x then y) then (y then x))": ("then", ("then", X, Y), ("then", Y, X)),
    "shown 0 (shown 0 x then x)": ("shown", 0, ("then", ("shown", 0, X), X)),
}
NO_SENTENCES = [
    "", " ", "\n", "  ", "x ", " x", "x\n", "\nx", "x y", "x and y", "x then y", "(x)", "((x))", "(true)", "(not x)",
    "(shown 0 x)", "()", "(", ")", "( x and y)", "(x and y )", "(x  and y)", "(x and  y)", "(x and y", "x and y)",
    "((x and y)", "(x and y))", "((x and y))", "(x and y or x)", "(x and y and x)", "(x and)", "(and y)", "(x y)",
    "(x and y)x", "x(x and y)", "(x and y)(x and y)", "(x and y) x", "(xand y)", "(x andy)", "(x)and(y)", "(x,y)",
    "(x not y)", "(x shown y)", "(x shown 0 y)", "(x iff y)", "(x & y)", "not", "not ", "notx ", "not  x", " not x",
    "not(x and y)", "not (x)", "not not", "not and", "and", "or", "then", "shown", "shown 0", "shown 0 ", "shown x",
    "shown  0 x", "shown 0  x", "shown0 x", "shown 0x", "shown 00 x", "shown 01 x", "shown -0 x", "shown +0 x",
    "shown -1 x",
    "shown +1 x", "shown 3 x", "shown 10 x", "shown a x", "shown true x", "shown (0) x", "shown 0 (x)", "shown 0 0 x",
    "shown 0 shown x", "shown 0(x and y)", "0", "1", "0 x", "x 0", "name x", "X", "Not x", "NOT x", "TRUE", "True",
    "(x AND y)", "(x And y)", "abcdefg", "x1", "x_y", "x-y", "shownx y", "()and()", "(x and y) and z", ";", "x;",
    "x ; y",
    "(x\nand y)", "not\nx", "not\tx", "(and and and)", "(not and not)", "(x then then)", "not shown", "not true false",
    "(x and 0)", "(0 and x)", "not 0", "shown 0 1", "shown 0 and", "((x and y) or", "[x and y]", "{x and y}",
    "(x and y);",
    "(x) and (y)", "(x and y)\n", "not x)", "(not x", "shown 0 x)", ") and (", ")x and y(", "not (x and y", "true)",
    "(true",
]


class SentenceTest(NotationCase):
    def test_texts(self):
        for text, sentence in SENTENCES.items():
            with self.subTest(text):
                self.assertEqual(format_sentence(sentence), text)
                for levels in (1, 2, 3):
                    self.assertEqual(parse_sentence(levels, text), sentence)
                self.assertEqual(sentence_told(1, text), sentence)

    def test_by_keyword(self):
        self.assertEqual(format_sentence(sentence=("not", X)), "not x")
        self.assertEqual(parse_sentence(text="not x", levels=1), ("not", X))

    def test_levels(self):
        for level in range(3):
            text = f"(shown {level} x or shown 0 y)"
            for levels in (1, 2, 3):
                if level < levels:
                    self.assertEqual(parse_sentence(levels, text), ("or", ("shown", level, X), ("shown", 0, Y)))
                else:
                    self.assert_no_text(parse_sentence, levels, text)
            self.assertEqual(format_sentence(("shown", level, TRUE)), f"shown {level} true")
        self.assertIs(type(parse_sentence(2, "shown 1 x")[1]), int)

    def test_other_texts(self):
        for text in NO_SENTENCES:
            for levels in (1, 2, 3):
                with self.subTest(levels, text=text):
                    self.assert_no_text(parse_sentence, levels, text)
            self.assertIsNone(sentence_told(3, text), text)

    def test_reserved_words_are_no_names(self):
        for word in RESERVED:
            for text in (word, f"not {word}", f"shown 0 {word}", f"({word} and x)", f"(x then {word})"):
                if word not in ("true", "false"):
                    self.assert_no_text(parse_sentence, 3, text)

    def test_names_have_one_to_six_letters(self):
        for length in range(1, 7):
            self.assertEqual(parse_sentence(1, "not " + "z" * length), ("not", ("name", "z" * length)))
        for length in (7, 8, 150, 8000):
            self.assert_no_text(parse_sentence, 1, "z" * length)
            self.assert_no_text(parse_sentence, 1, "not " + "z" * length)
        self.assert_no_text(parse_sentence, 1, "( and x)")
        self.assert_no_text(parse_sentence, 1, "not ")

    def test_right_up_to_the_last_sign(self):
        for text in SENTENCES:
            for sign in " ()x0;\n1X":
                wanted = sentence_told(1, text + sign)
                self.assertEqual(self.parsed(parse_sentence, 1, text + sign), wanted)
                self.assertEqual(wanted is None, not (sign == "x" and text[-1].islower() and len(text.split()[-1]) < 6),
                                 text + sign)
            wanted = sentence_told(1, text[:-1])
            self.assertEqual(self.parsed(parse_sentence, 1, text[:-1]), wanted)
            if text[-1] == ")":
                self.assertIsNone(wanted)

    def test_drawn_sentences(self):
        drawing = Drawing(34)
        for _ in range(1500):
            levels = drawing.randint(1, 3)
            sentence = drawing.sentence(levels, ["a", "bc", "toolon", "me"], drawing.randint(1, 40), free=True)
            text = format_sentence(sentence)
            self.assertEqual((parse_sentence(levels, text), sentence_told(levels, text)), (sentence, sentence))

    def test_nested_as_deep_as_texts_may_be(self):
        for depth in (59, 60, 90):
            for head, tail in (("not ", ""), ("shown 2 ", ""), ("(x and ", ")"), ("(", " then y)"),
                               ("not shown 1 (x or ", ")")):
                text = head * depth + "true" + tail * depth
                found = parse_sentence(3, text)
                self.assertTrue(is_sentence(3, found))
                self.assertEqual(len([node for node in nodes_of(found) if node == TRUE]), 1)
                self.assertEqual(format_sentence(found), text)
                for wrong in (head * depth + tail * depth, text + ")", head * depth + "tru e" + tail * depth,
                              "(" + text,
                              head * depth, text[:-1] + " ", text + " ", head * depth + "(true)" + tail * depth):
                    self.assert_no_text(parse_sentence, 3, wrong)
        for text in ("(" * 60, ")" * 60, "not " * 60, "shown 0 " * 60, "( " * 60, "(" * 60 + "x" + ")" * 60):
            self.assert_no_text(parse_sentence, 3, text)

    def test_sentences_that_were_returned(self):
        # They are nested deeper than calls can be.
        deep = TRUE
        for _ in range(3000):
            deep = ("not", deep)
        self.assertEqual(format_sentence(deep), "not " * 3000 + "true")
        book = Book.made_of(2, x=("shown", 0, ("then", ("shown", 1, X), ("shown", 1, FALSE))))
        found = plain(book, ("or", X, ("shown", 0, FALSE)))
        self.assertEqual(parse_sentence(2, format_sentence(found)), found)

    def test_spoilt_texts(self):
        drawing = Drawing(35)
        parsed = 0
        for at in range(60):
            levels = 1 + at % 3
            sentence = drawing.sentence(levels, ["x", "no", "an"], drawing.randint(1, 9), free=True)
            for text in spoilt(format_sentence(sentence), " ()012xdtX\n"):
                found = self.parsed(parse_sentence, levels, text)
                self.assertEqual(found, sentence_told(levels, text), text)
                if found is not None:
                    parsed += 1
                    self.assertEqual(format_sentence(found), text)
        self.assertGreater(parsed, 500)

    def test_all_short_texts_of_words(self):
        words = ["not", "shown", "0", "1", "x", "true", "and", "(x", "x)", "(not", "(true", "true)", ")", "("]
        for many in range(5):
            for chosen in itertools.product(words, repeat=many):
                text = " ".join(chosen)
                self.assertEqual(self.parsed(parse_sentence, 1, text), sentence_told(1, text), text)


if __name__ == "__main__":
    unittest.main()
