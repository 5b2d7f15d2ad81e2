import copy
import unittest

from tests.drawn import Drawing
from vowstair.errors import InvalidSentence
from vowstair.sentences import (
    FALSE, TRUE, check_sentence, is_name, is_sentence, names_in, nodes_of, open_names, replaced, size_of, slots_in,
)

X, Y, Z = ("name", "x"), ("name", "y"), ("name", "z")
RESERVED = ["true", "false", "not", "and", "or", "then", "shown"]
PLAIN = [
    TRUE, FALSE, X, ("name", "abcdef"), ("not", X), ("and", X, Y), ("or", TRUE, FALSE), ("then", X, ("not", Y)),
    ("not", ("not", ("not", ("and", ("or", X, Y), ("then", X, X))))),
]
SHOWN = ("shown", 0, ("and", X, ("shown", 0, ("or", X, ("not", Y)))))
NO_SENTENCES = [
    None, True, False, 0, 1, -1, "", "x", "true", "not", [], (), ((),), [("true",)], (("true",),), (None,), (True,),
    (0,), ("",), ("x",), ("name",), ("not",), ("and",), ("shown",), ("True",), ("TRUE",), ("true ",), ("iff", X, Y),
    ["true"], ["name", "x"], ["not", X], ["and", X, Y], ["shown", 0, X], ("true", X), ("true", None), ("false", TRUE),
    ("true", "true"), ("name", "x", "y"), ("name", X), ("name", ""), ("name", "true"), ("name", "shown"), ("name", "X"),
    ("name", "abcdefg"), ("name", "x1"), ("name", None), ("name", 1), ("name", ("x",)), ("name", ["x"]), ("name", True),
    ("not", X, Y), ("not", "x"), ("not", None), ("not", ["name", "x"]), ("not", [X]), ("not", ()), ("not", (X,)),
    ("and", X), ("and", X, Y, Z), ("and", (X, Y)), ("and", X, None), ("and", "x", Y), ("and", X, ["name", "y"]),
    ("or", X), ("or", X, Y, Z), ("or", None, Y), ("then", X), ("then", X, Y, Z), ("then", X, "y"), ("then", (), Y),
    ("shown", X), ("shown", 0), ("shown", 0, X, Y), ("shown", X, 0), ("shown", 0, "x"), ("shown", 0, None),
    ("shown", -1, X), ("shown", 3, X), ("shown", 10**29, X), ("shown", True, X), ("shown", False, X),
    ("shown", None, X), ("shown", "0", X), ("shown", (0,), X), ("shown", [0], X), ("shown", 0, ["true"]),
    (1, X), (None, X), (("not",), X), (["not"], X), ([], X), (("name", "x"), ("name", "y")),
]


def deep(many, leaf):
    for _ in range(many):
        leaf = (leaf,)
    return leaf


def nested(many, leaf, level=0):
    for at in range(many):
        leaf = [("not", leaf), ("shown", level, leaf), ("and", TRUE, leaf), ("then", leaf, FALSE)][at % 4]
    return leaf


class NameTest(unittest.TestCase):
    def test_reserved_words(self):
        for word in RESERVED:
            self.assertIs(is_name(word), False)
            self.assertIs(is_name(word + "s"), len(word) < 6)
            self.assertIs(is_name(word[1:]), word[1:] not in RESERVED and len(word) > 1)

    def test_lengths(self):
        for many in range(12):
            self.assertIs(is_name("a" * many), 1 <= many <= 6)
        for text in ("", "abcdefg", "z" * 8000):
            self.assertIs(is_name(text), False)
        for text in ("a", "z", "me", "you", "name", "abcdef", "zzzzzz", "end", "valid", "truth", "nots"):
            self.assertIs(is_name(text), True)

    def test_every_sign(self):
        letters = "abcdefghijklmnopqrstuvwxyz"
        for code in list(range(32, 127)) + [10]:
            sign = chr(code)
            for text in (sign, sign + "a", "a" + sign, "ab" + sign + "c"):
                self.assertIs(is_name(text), sign in letters, text)

    def test_signs_beside_ascii(self):
        for text in ("\xe9", "\xdf", "\u0430", "a\u0301", "\uff41", "\xaa"):
            self.assertIs(is_name(text), False)

    def test_by_keyword(self):
        self.assertIs(is_name(text="x"), True)


class SentenceTest(unittest.TestCase):
    def assert_sentence(self, levels, value, wanted):
        kept = copy.deepcopy(value)
        with self.subTest(levels=levels, value=value):
            self.assertIs(is_sentence(levels, value), wanted)
            if wanted:
                self.assertIsNone(check_sentence(levels, value))
                self.assertIsNone(check_sentence(levels, value, index=4))
            else:
                with self.assertRaises(InvalidSentence) as held:
                    check_sentence(levels, value)
                self.assertEqual(held.exception.index, 0)
                with self.assertRaises(InvalidSentence) as held:
                    check_sentence(levels, value, index=7)
                self.assertEqual(held.exception.index, 7)
            self.assertEqual(value, kept)

    def test_constants(self):
        self.assertEqual([TRUE, FALSE], [("true",), ("false",)])

    def test_every_kind(self):
        for levels in (1, 2, 3):
            for value in PLAIN + [SHOWN]:
                self.assert_sentence(levels, value, True)

    def test_levels_of_shown(self):
        for levels in (1, 2, 3):
            for level in (-(10**29), -2, -1, 0, 1, 2, 3, 4, 10**29):
                for value in (("shown", level, X), nested(9, X, level)):
                    self.assert_sentence(levels, value, 0 <= level < levels)

    def test_true_in_the_place_of_a_level(self):
        for levels in (1, 2, 3):
            for level in (True, False):
                self.assert_sentence(levels, ("shown", level, TRUE), False)
                self.assert_sentence(levels, ("not", ("shown", level, ("shown", 0, TRUE))), False)

    def test_values_that_are_none(self):
        for levels in (1, 2, 3):
            for value in NO_SENTENCES:
                self.assert_sentence(levels, value, False)

    def test_parts_that_are_none(self):
        for value in NO_SENTENCES:
            for whole in (
                ("not", value), ("and", value, X), ("and", X, value), ("or", value, X), ("or", X, value),
                ("then", value, X), ("then", X, value), ("shown", 0, value), nested(11, value), nested(10, value),
            ):
                self.assert_sentence(2, whole, False)

    def test_values_nested_deep(self):
        for leaf in (None, True, TRUE, X, ()):
            for many in (1, 2, 20, 39):
                self.assert_sentence(1, deep(many, leaf), False)
        self.assert_sentence(2, ("not", deep(38, "x")), False)
        self.assert_sentence(2, ("shown", deep(38, 0), X), False)
        self.assert_sentence(2, ("name", deep(38, "x")), False)

    def test_sentences_nested_deep(self):
        self.assertIs(is_sentence(1, nested(500, X)), True)
        self.assertIs(is_sentence(1, nested(500, ("name", "X"))), False)

    def test_by_keyword(self):
        self.assertIs(is_sentence(value=X, levels=1), True)
        self.assertIsNone(check_sentence(value=X, levels=1, index=2))
        with self.assertRaises(TypeError):
            check_sentence(1, X, 0)


# All kinds, with equal parts, and names inside and outside of shown.
BODY = ("and", X, ("shown", 1, Y))
MIXED = ("then", ("or", ("not", ("shown", 0, BODY)), Z), ("and", ("shown", 1, Y), ("shown", 0, BODY)))


class PartsTest(unittest.TestCase):
    def assert_new(self, call, sentence):
        found = call(sentence)
        kept = list(found)
        self.assertIs(type(found), list)
        found.append("other")
        self.assertEqual(call(sentence), kept)

    def test_size(self):
        for sentence, many in ((TRUE, 1), (X, 1), (("not", X), 2), (("and", X, X), 3), (SHOWN, 8), (MIXED, 17)):
            self.assertEqual(size_of(sentence), many)
        self.assertEqual(size_of(sentence=nested(8, X)), 13)

    def test_names_in_the_order_of_the_first_occurrences(self):
        told = [
            (TRUE, []), (X, ["x"]), (("and", Y, X), ["y", "x"]),
            (("or", ("and", Y, X), ("then", Z, X)), ["y", "x", "z"]),
            (("then", ("shown", 0, Z), ("and", Y, Z)), ["z", "y"]), (MIXED, ["x", "y", "z"]), (SHOWN, ["x", "y"]),
        ]
        for sentence, wanted in told:
            self.assertEqual(names_in(sentence), wanted)
            self.assert_new(names_in, sentence)

    def test_slots_in_the_order_of_the_first_occurrences(self):
        inner = ("shown", 0, ("or", X, ("not", Y)))
        told = [
            (TRUE, []), (X, []), (("shown", 2, X), [(2, X)]),
            (SHOWN, [(0, ("and", X, inner)), (0, inner[2])]),
            (("and", ("shown", 1, X), ("shown", 0, X)), [(1, X), (0, X)]),
            (("and", ("shown", 0, X), ("or", ("shown", 0, Y), ("shown", 0, X))), [(0, X), (0, Y)]),
            (MIXED, [(0, BODY), (1, Y)]),
            (("and", ("shown", 0, ("shown", 1, X)), ("shown", 0, ("shown", 1, Y))),
             [(0, ("shown", 1, X)), (1, X), (0, ("shown", 1, Y)), (1, Y)]),
        ]
        for sentence, wanted in told:
            self.assertEqual(slots_in(sentence), wanted)
            self.assert_new(slots_in, sentence)

    def test_open_names(self):
        told = [
            (TRUE, []), (X, ["x"]), (("shown", 0, X), []), (("not", Y), ["y"]), (MIXED, ["z"]), (SHOWN, []),
            (("and", ("shown", 0, X), ("or", Y, ("then", X, Y))), ["y", "x"]),
            (("and", ("not", ("shown", 0, ("and", Z, ("shown", 0, Y)))), Y), ["y"]),
        ]
        for sentence, wanted in told:
            self.assertEqual(open_names(sentence), wanted)
            self.assert_new(open_names, sentence)

    def test_nodes_in_their_order_with_duplicates(self):
        self.assertEqual(list(nodes_of(X)), [X])
        both = ("and", X, X)
        self.assertEqual(list(nodes_of(("or", both, ("not", both)))), [
            ("or", both, ("not", both)), both, X, X, ("not", both), both, X, X,
        ])
        wanted = [MIXED, MIXED[1], MIXED[1][1], ("shown", 0, BODY), BODY, X, ("shown", 1, Y), Y, Z, MIXED[2]]
        wanted += [("shown", 1, Y), Y, ("shown", 0, BODY), BODY, X, ("shown", 1, Y), Y]
        self.assertEqual(list(nodes_of(sentence=MIXED)), wanted)

    def test_nodes_are_yielded(self):
        found = nodes_of(MIXED)
        self.assertIs(iter(found), found)
        self.assertEqual([next(found), next(found)], [MIXED, MIXED[1]])

    def test_drawn_sentences(self):
        drawing = Drawing(1)
        for _ in range(200):
            sentence = drawing.sentence(2, ["x", "y", "z"], drawing.randint(1, 40), free=True)
            nodes = nodes_by_definition(sentence)
            self.assertEqual(list(nodes_of(sentence)), nodes)
            self.assertEqual(size_of(sentence), len(nodes))
            self.assertEqual(names_in(sentence), list(dict.fromkeys([node[1] for node in nodes if node[0] == "name"])))
            slots = [node[1:] for node in nodes if node[0] == "shown"]
            self.assertEqual(slots_in(sentence), list(dict.fromkeys(slots)))
            self.assertEqual(open_names(sentence), list(dict.fromkeys(open_by_definition(sentence))))
            self.assertIs(is_sentence(2, sentence), True)

    def test_sentences_nested_deep(self):
        sentence = nested(500, X)
        self.assertEqual(size_of(sentence), 751)
        self.assertEqual((names_in(sentence), open_names(sentence), len(slots_in(sentence))), (["x"], [], 125))
        self.assertEqual(list(nodes_of(replaced(sentence, {"x": Y}))), list(nodes_of(nested(500, Y))))


def nodes_by_definition(sentence):
    found = [sentence]
    for part in sentence[1:]:
        if isinstance(part, tuple):
            found.extend(nodes_by_definition(part))
    return found


def open_by_definition(sentence):
    if sentence[0] in ("name", "shown"):
        return [sentence[1]] * (sentence[0] == "name")
    return [name for part in sentence[1:] for name in open_by_definition(part)]


class ReplacedTest(unittest.TestCase):
    def test_names_that_occur(self):
        self.assertEqual(replaced(X, {"x": TRUE}), TRUE)
        found = replaced(("and", X, ("shown", 1, X)), {"x": ("not", Y)})
        self.assertEqual(found, ("and", ("not", Y), ("shown", 1, ("not", Y))))
        found = replaced(SHOWN, {"x": Z, "y": FALSE})
        self.assertEqual(found, ("shown", 0, ("and", Z, ("shown", 0, ("or", Z, ("not", FALSE))))))

    def test_names_that_do_not_occur_and_names_that_stay(self):
        for sentence in PLAIN + [SHOWN, MIXED]:
            self.assertEqual(replaced(sentence, {}), sentence)
            self.assertEqual(replaced(sentence, {"w": TRUE, "true": X, "and": X, "a": X}), sentence)
        self.assertEqual(replaced(("or", X, Y), {"y": Z}), ("or", X, Z))

    def test_names_that_are_exchanged(self):
        names = {"x": Y, "y": X}
        found = replaced(("then", X, ("shown", 0, ("and", Y, X))), names)
        self.assertEqual(found, ("then", Y, ("shown", 0, ("and", X, Y))))
        self.assertEqual(replaced(replaced(MIXED, names), names), MIXED)

    def test_the_inserted_sentence_is_not_searched_again(self):
        self.assertEqual(replaced(X, {"x": ("not", X)}), ("not", X))
        self.assertEqual(replaced(("and", X, Y), {"x": ("shown", 0, Y), "y": X}), ("and", ("shown", 0, Y), X))

    def test_the_dict_stays_as_it_is(self):
        names = {"x": ("not", Y), "y": X}
        kept = copy.deepcopy(names)
        sentence = copy.deepcopy(MIXED)
        replaced(names=names, sentence=sentence)
        self.assertEqual((names, list(names)), (kept, ["x", "y"]))
        self.assertEqual(sentence, MIXED)


if __name__ == "__main__":
    unittest.main()
