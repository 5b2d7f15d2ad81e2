import copy
import inspect
import itertools
import unittest

from tests.drawn import Drawing
from vowstair.books import Book
from vowstair.doers import MAX_DOERS, Field, act_name
from vowstair.errors import (
    DuplicateName, InvalidDoer, InvalidLevels, InvalidName, InvalidSentence, TooMany, UnknownName,
)
from vowstair.evaluation import meaning_of
from vowstair.sentences import FALSE, TRUE, is_name

ME, YOU, A, B, C, U, V = [("name", name) for name in ("me", "you", "a", "b", "c", "u", "v")]


def shown(level, sentence, times=1):
    for _ in range(times):
        sentence = ("shown", level, sentence)
    return sentence


def slots(many, level=0):
    return shown(level, FALSE, many)


def spoken(sentence, one, other, doers):
    """The rule of one, as it is towards another one, word by word as [13] says it."""
    if sentence[0] == "name":
        name = sentence[1]
        if name == "me":
            return ("name", one + other + "do")
        if name == "you":
            return ("name", other + one + "do")
        assert name in doers
        return ("name", other + name + "do")
    return tuple([spoken(part, one, other, doers) if isinstance(part, tuple) else part for part in sentence])


def drawn_field(drawing, levels, doers, size=7):
    names = ["me", "you"] + doers
    while True:
        rules = [(doer, drawing.sentence(levels, names, drawing.randint(1, size))) for doer in doers]
        try:
            return Field(levels, rules), rules
        except TooMany:
            continue


class FieldCase(unittest.TestCase):
    def assert_raises(self, error, call, *values):
        with self.assertRaises(type(error)) as held:
            call(*values)
        self.assertEqual(vars(held.exception), vars(error))


class FieldTest(FieldCase):
    def test_the_example(self):
        field = Field(1, [("a", ("shown", 0, ("name", "you"))), ("b", ("false",))])
        wanted = [[('a', 'a', True), ('a', 'b', False), ('b', 'a', False), ('b', 'b', False)],
                  '      a   b\na   yes  no\nb    no  no']
        self.assertEqual([list(field.walk()), field.chart()], wanted)

    def test_act_name(self):
        self.assertEqual([act_name("a", "b"), act_name("b", "a"), act_name(other="z", one="q")],
                         ["abdo", "bado", "qzdo"])
        self.assertEqual(MAX_DOERS, 3)
        letters = "abcdefghijklmnopqrstuvwxyz"
        self.assertTrue(all(is_name(act_name(one, other)) for one in letters for other in letters))

    def test_no_doers(self):
        for levels in (1, 2, 3):
            field = Field(levels, [])
            self.assertEqual((field.doers(), list(field.walk()), field.chart()), ([], [], "   "))
            self.assertEqual(field.book(), Book.empty(levels))
            self.assert_raises(UnknownName("a"), field.acts, "a", "b")

    def test_one_doer(self):
        field = Field(1, [("q", shown(0, ("and", ME, ("and", YOU, ("name", "q")))))])
        act = ("name", "qqdo")
        self.assertEqual(field.book(), Book(1, [("qqdo", shown(0, ("and", act, ("and", act, act))))]))
        self.assertEqual((list(field.walk()), field.chart()), ([("q", "q", True)], "      q\nq   yes"))

    def test_two_doers(self):
        field = Field(2, [("b", shown(0, ("or", YOU, A))), ("a", ("not", shown(1, ("then", ME, B))))])
        bb, ba, ab, aa = [("name", name) for name in ("bbdo", "bado", "abdo", "aado")]
        self.assertEqual(field.book().pairs(), [
            ("bbdo", shown(0, ("or", bb, ba))), ("bado", shown(0, ("or", ab, aa))),
            ("abdo", ("not", shown(1, ("then", ab, bb)))), ("aado", ("not", shown(1, ("then", aa, ab)))),
        ])
        self.assertEqual((field.doers(), field.book().levels), (["b", "a"], 2))

    def test_three_doers(self):
        rules = [("x", shown(0, ("name", "y"))), ("m", ("and", shown(0, ME), shown(0, YOU))),
                 ("y", shown(0, ("name", "m")))]
        found = Field(1, rules).book().pairs()
        self.assertEqual([name for name, _ in found],
                         ["xxdo", "xmdo", "xydo", "mxdo", "mmdo", "mydo", "yxdo", "ymdo", "yydo"])
        self.assertEqual([sentence[2][1] for name, sentence in found if name[0] in "xy"],
                         ["xydo", "mydo", "yydo", "xmdo", "mmdo", "ymdo"])
        self.assertEqual(found[3][1], ("and", shown(0, ("name", "mxdo")), shown(0, ("name", "xmdo"))))

    def test_books_of_drawn_rules(self):
        drawing = Drawing(61)
        for at in range(200):
            levels, doers = 1 + at % 3, drawing.sample("abdmouyz", drawing.randint(1, 3))
            field, rules = drawn_field(drawing, levels, doers)
            wanted = [(one + other + "do", spoken(rule, one, other, doers)) for one, rule in rules for other in doers]
            self.assertEqual((field.book().pairs(), field.book().levels, field.doers()), (wanted, levels, doers))
            self.assertEqual(field.book(), Book(levels, wanted))

    def test_acts_against_the_meanings_of_the_book(self):
        drawing = Drawing(62)
        answers = []
        for at in range(90):
            levels, doers = 1 + at % 3, drawing.sample("abcdez", 1 + at // 3 % 3)
            field, _ = drawn_field(drawing, levels, doers, size=10)
            book = field.book()
            meanings = [(name, book.meaning(("name", name))) for name in book.names()]
            triples = []
            for one, other in itertools.product(doers, doers):
                sentence = book[one + other + "do"]
                wanted = meaning_of(levels, sentence, names=meanings).in_the_end()
                self.assertIs(field.acts(one, other), wanted)
                triples.append((one, other, wanted))
                answers.append(wanted)
            self.assertEqual(list(field.walk()), triples)
            self.assertEqual(field.chart(), charted(doers, triples))
        self.assertGreater(answers.count(True), 60)
        self.assertGreater(answers.count(False), 60)

    def test_known_doers(self):
        # One acts to those of whom it can be shown that they act to it, one to
        # those of whom the contrary cannot be shown, and one to nobody.
        field = Field(1, [("f", shown(0, YOU)), ("p", ("not", shown(0, ("not", YOU)))), ("d", FALSE)])
        acts = [(one, other) for one, other, done in field.walk() if done]
        self.assertEqual(acts, [("f", "f"), ("p", "f")])

    def test_unknown_doers(self):
        field = Field(1, [("a", shown(0, YOU)), ("b", FALSE)])
        for name in ("c", "", "ab", "A", "me", "abdo", "you"):
            self.assert_raises(UnknownName(name), field.acts, name, "a")
            self.assert_raises(UnknownName(name), field.acts, "b", name)
            self.assert_raises(UnknownName(name), field.acts, name, "zz")
        self.assert_raises(UnknownName("u"), field.acts, "u", "v")
        self.assertIs(field.acts(other="a", one="a"), True)

    def test_walk_is_yielded_in_the_order_of_the_pairs(self):
        field = Field(2, [("c", TRUE), ("a", FALSE), ("b", TRUE)])
        self.assertTrue(inspect.isgenerator(field.walk()))
        self.assertEqual([triple[:2] for triple in field.walk()], list(itertools.product("cab", "cab")))
        self.assertEqual([type(triple) for triple in field.walk()], [tuple] * 9)
        self.assertEqual([triple[2] for triple in field.walk()], [True] * 3 + [False] * 3 + [True] * 3)
        walking = field.walk()
        self.assertEqual([next(walking), list(field.walk())[0], next(walking)],
                         [("c", "c", True), ("c", "c", True), ("c", "a", True)])

    def test_charts(self):
        self.assertEqual(Field(1, [("a", TRUE)]).chart(), "      a\na   yes")
        self.assertEqual(Field(1, [("z", FALSE)]).chart(), "      z\nz    no")
        self.assertEqual(Field(1, [("a", TRUE), ("b", FALSE), ("c", shown(0, YOU))]).chart(),
                         "      a   b   c\na   yes yes yes\nb    no  no  no\nc   yes  no yes")

    def test_other_letters_and_another_order(self):
        drawing = Drawing(63)
        for at in range(60):
            levels, doers = 1 + at % 3, list("abc")
            field, rules = drawn_field(drawing, levels, doers)
            others = dict(zip(doers, drawing.sample("mouxyz", 3)))

            def renamed(sentence):
                if sentence[0] == "name":
                    return ("name", others.get(sentence[1], sentence[1]))
                return tuple([renamed(part) if isinstance(part, tuple) else part for part in sentence])

            changed = [(others[doer], renamed(rule)) for doer, rule in rules]
            drawing.shuffle(changed)
            again = Field(levels, changed)
            for one, other in itertools.product(doers, doers):
                self.assertIs(again.acts(others[one], others[other]), field.acts(one, other))

    def test_the_passed_list_is_not_kept(self):
        rules = [("a", shown(0, YOU)), ("b", FALSE)]
        kept = copy.deepcopy(rules)
        field = Field(1, rules)
        before = (field.doers(), field.chart(), field.book())
        self.assertEqual(rules, kept)
        rules.reverse()
        rules.append(("c", TRUE))
        self.assertEqual((field.doers(), field.chart(), field.book()), before)
        self.assertEqual(Field(rules=tuple(kept), levels=1).chart(), before[1])

    def test_returned_lists_are_new(self):
        field = Field(1, [("a", shown(0, YOU)), ("b", FALSE)])
        found = field.doers()
        found.append("c")
        found.reverse()
        field.book().pairs().clear()
        self.assertEqual((field.doers(), len(field.book()), len(list(field.walk()))), (["a", "b"], 4, 4))


def charted(doers, triples):
    """The chart, sign by sign."""
    lines = ["   " + "".join("   " + doer for doer in doers)]
    for one in doers:
        answers = [done for first, _, done in triples if first == one]
        lines.append(one + "  " + "".join(" yes" if done else "  no" for done in answers))
    return "\n".join(lines)


class ErrorTest(FieldCase):
    def test_levels(self):
        for levels in (0, -1, 4, 10**29):
            self.assert_raises(InvalidLevels(), Field, levels, [])
            self.assert_raises(InvalidLevels(), Field, levels, [("A", None), ("a", U)])

    def test_names(self):
        for name in ("", "A", "1", "ab", "me", "you", " a", "_", "-", "\n"):
            self.assert_raises(InvalidName(name), Field, 1, [("a", None), (name, None), ("a", TRUE)])

    def test_doers_that_are_there_already(self):
        self.assert_raises(DuplicateName("a"), Field, 1, [("a", None), ("b", U), ("a", TRUE)])
        self.assert_raises(DuplicateName("a"), Field, 1, [("a", None), ("a", U), ("B", TRUE)])
        self.assert_raises(InvalidName("B"), Field, 1, [("a", None), ("B", U), ("a", TRUE)])

    def test_too_many_doers(self):
        four = [(doer, None) for doer in "abcd"]
        self.assert_raises(TooMany(3), Field, 1, four)
        self.assert_raises(TooMany(3), Field, 1, [("a", U)] + four[1:])
        self.assert_raises(DuplicateName("a"), Field, 1, four + [("a", TRUE)])
        self.assert_raises(InvalidName("E"), Field, 1, four + [("E", TRUE)])
        self.assertEqual(len(Field(1, [(doer, TRUE) for doer in "abc"]).doers()), 3)

    def test_invalid_sentences(self):
        for value in (None, 0, True, "x", (), ("nothing",), shown(1, TRUE), shown(True, TRUE), ["true"], ("name", "A")):
            self.assert_raises(InvalidSentence(0), Field, 1, [("a", value), ("b", U)])
            self.assert_raises(InvalidSentence(2), Field, 1, [("a", TRUE), ("b", TRUE), ("c", value)])

    def test_unknown_names(self):
        self.assert_raises(UnknownName("u"), Field, 1, [("a", shown(0, ("and", U, V)))])
        self.assert_raises(UnknownName("c"), Field, 1, [("a", shown(0, ME)), ("b", shown(0, ("or", A, C)))])
        self.assert_raises(UnknownName("aado"), Field, 1, [("a", shown(0, ("name", "aado")))])
        self.assert_raises(UnknownName("do"), Field, 1, [("a", shown(0, ("name", "do")))])
        self.assert_raises(UnknownName("u"), Field, 1, [("a", ("and", ME, U))])
        # A doer may speak of those who come behind it.
        self.assertEqual(Field(1, [("a", shown(0, B)), ("b", shown(0, A))]).doers(), ["a", "b"])

    def test_open_names(self):
        for rule in (ME, YOU, A, ("not", B), ("and", shown(0, ME), YOU)):
            self.assert_raises(InvalidDoer("a"), Field, 1, [("a", rule), ("b", U)])
            self.assert_raises(InvalidDoer("b"), Field, 1, [("a", shown(0, ME)), ("b", rule)])

    def test_the_first_wrong_pair_decides(self):
        self.assert_raises(InvalidDoer("a"), Field, 1, [("a", ME), ("b", None)])
        self.assert_raises(InvalidSentence(0), Field, 1, [("a", None), ("b", ME)])
        self.assert_raises(UnknownName("u"), Field, 1, [("a", shown(0, U)), ("b", None)])
        self.assert_raises(InvalidSentence(1), Field, 1, [("a", slots(13)), ("b", None)])
        self.assert_raises(InvalidDoer("b"), Field, 1, [("a", slots(13)), ("b", YOU)])
        self.assert_raises(UnknownName("v"), Field, 1, [("a", slots(13)), ("b", V)])

    def test_too_many_slots(self):
        self.assertEqual(len(Field(1, [("a", slots(12))]).book().slots()), 12)
        self.assert_raises(TooMany(12), Field, 1, [("a", slots(13))])
        # Each slot with a name is another one for each pair.
        self.assertEqual(len(Field(1, [("a", shown(0, YOU)), ("b", slots(8))]).book().slots()), 10)
        self.assert_raises(TooMany(12), Field, 2, [("a", shown(0, YOU)), ("b", slots(8)), ("c", slots(2, 1))])
        rule = ("and", shown(0, ME), shown(0, ("not", ME)))
        self.assert_raises(TooMany(12), Field, 1, [(doer, rule) for doer in "abc"])
        self.assertEqual(len(Field(1, [(doer, shown(0, ME)) for doer in "abc"]).book().slots()), 9)


if __name__ == "__main__":
    unittest.main()
