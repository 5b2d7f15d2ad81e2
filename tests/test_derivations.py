import copy
import itertools
import unittest

from tests.drawn_books import BookDrawing
from vowstair.books import Book
from vowstair.derivations import derivation_holds, first_gap
from vowstair.errors import InvalidSentence, TooMany, UnknownName
from vowstair.sentences import FALSE, TRUE

G, U, V, X, Y, Z = [("name", name) for name in "guvxyz"]
LETTERS = [("name", name) for name in "abcdefghi"]
RULES = ["truth", "book", "spread", "self", "rise", "mark", "box", "cut"]


def shown(level, sentence):
    return ("shown", level, sentence)


def then(one, other):
    return ("then", one, other)


def no(sentence):
    return ("not", sentence)


def joined(word, sentences):
    found = sentences[0]
    for sentence in sentences[1:]:
        found = (word, found, sentence)
    return found


def a_book():
    pairs = [("x", shown(0, X)), ("g", no(shown(0, G))), ("y", ("and", shown(1, X), shown(2, then(Y, G)))), ("z", TRUE)]
    return Book(3, pairs + [(name, FALSE) for _, name in LETTERS if name not in "gxyz"])


def is_right(book, steps, at):
    """Whether a step is right, as [12] says it, by patterns."""
    sentence, rule, sources = steps[at]
    if any(not 0 <= source < at for source in sources):
        return False
    match (rule, sentence, [steps[source][0] for source in sources]):
        case ("truth", _, []):
            return is_truth(sentence)
        case ("book", ("then", ("name", name), said), []) if dict(book.pairs())[name] == said:
            return True
        case ("book", ("then", said, ("name", name)), []):
            return dict(book.pairs())[name] == said
        case ("spread", ("then", ("shown", k, ("then", s, t)), ("then", ("shown", l, u), ("shown", m, v))), []):
            return k == l == m and s == u and t == v
        case ("self", ("then", ("shown", k, ("then", ("shown", l, s), t)), ("shown", m, u)), []):
            return k == l == m and s == t == u
        case ("rise", ("then", ("shown", k, s), ("shown", m, t)), []):
            return m == k + 1 and s == t
        case ("mark", ("then", ("not", ("shown", k, s)), ("shown", m, ("not", ("shown", l, t)))), []):
            return m == k + 1 and l == k and s == t
        case ("box", ("shown", _, s), [t]):
            return s == t
        case ("cut", t, [s, ("then", u, v)]):
            return s == u and t == v
    return False


def is_truth(sentence):
    """Whether a sentence has at most 8 letters and is true for all their values."""
    def letters(part):
        if part[0] in ("name", "shown"):
            return [part]
        return [letter for inner in part[1:] for letter in letters(inner)]

    def true(part, values):
        match part:
            case ("true",) | ("false",):
                return part[0] == "true"
            case ("not", one):
                return not true(one, values)
            case ("and", one, other):
                return true(one, values) and true(other, values)
            case ("or", one, other):
                return true(one, values) or true(other, values)
            case ("then", one, other):
                return not true(one, values) or true(other, values)
        return values[part]

    found = sorted(set(letters(sentence)), key=repr)
    if len(found) > 8:
        return False
    rows = itertools.product([False, True], repeat=len(found))
    return all(true(sentence, dict(zip(found, values))) for values in rows)


def exchanged(sentence):
    """The sentences in which one node is another one, or one level is another one."""
    for other in (X, TRUE, shown(0, X), no(sentence), then(X, Y)):
        if other != sentence:
            yield other
    if sentence[0] == "shown":
        for level in range(3):
            if level != sentence[1]:
                yield shown(level, sentence[2])
    if sentence[0] in ("and", "or", "then"):
        for word in ("and", "or", "then"):
            if word != sentence[0]:
                yield (word,) + sentence[1:]
        yield (sentence[0], sentence[2], sentence[1])
    for at, part in enumerate(sentence):
        if isinstance(part, tuple):
            for other in exchanged(part):
                yield sentence[:at] + (other,) + sentence[at + 1:]


class DerivationCase(unittest.TestCase):
    def assert_gap(self, gap, steps, book=None):
        book = a_book() if book is None else book
        self.assertEqual(first_gap(book, steps), gap, steps)
        self.assertIs(derivation_holds(book, steps), gap is None)
        rights = [is_right(book, steps, at) for at in range(len(steps))]
        self.assertEqual(rights.index(False) if False in rights else None, gap, steps)

    def assert_raises(self, error, *values):
        for call in (first_gap, derivation_holds):
            with self.assertRaises(type(error)) as held:
                call(*values)
            self.assertEqual(vars(held.exception), vars(error))

    def assert_only(self, sentence):
        """Each other rule is right for a sentence only where it says so, and none of them with other sources."""
        for rule in RULES + ["", "Truth", "self ", "shown", "modus"]:
            for sources in ((), (0,), (-1,), (0, 0), (0, 1), (1, 0), (2,)):
                steps = [(TRUE, "truth", ()), (then(TRUE, X), "box", (0,)), (sentence, rule, sources)]
                for found in (steps[2:], steps[:1] + steps[2:]):
                    gap = None if is_right(a_book(), found, len(found) - 1) else len(found) - 1
                    self.assert_gap(gap, found)


class StartTest(DerivationCase):
    """The rules without sources."""

    def assert_rule(self, rule, right, wrong):
        for sentence in right:
            self.assert_gap(None, [(sentence, rule, ())])
            self.assert_only(sentence)
            # Wherever it is not as the rule says, it is not right.
            for other in exchanged(sentence):
                steps = [(other, rule, ())]
                self.assert_gap(None if is_right(a_book(), steps, 0) else 0, steps)
            for sources in ((0,), (-1,), (1,), (0, 0), (-1, -1)):
                self.assert_gap(0, [(sentence, rule, sources)])
                self.assert_gap(1, [(sentence, rule, ()), (sentence, rule, sources)])
        for sentence in wrong:
            self.assert_gap(0, [(sentence, rule, ())])

    def test_book(self):
        book = a_book()
        right = [then(("name", name), book[name]) for name in "xgyz"]
        right += [then(book[name], ("name", name)) for name in "xgyz"]
        wrong = [then(X, book["g"]), then(book["g"], X), then(X, X), then(X, TRUE), then(TRUE, X), X, book["x"], TRUE,
                 ("and", X, book["x"]), then(book["x"], book["x"]), shown(0, then(X, book["x"])),
                 no(then(X, book["x"]))]
        self.assert_rule("book", right, wrong)

    def test_a_name_with_the_sentence_of_another_one(self):
        book = Book.made_of(2, x=shown(0, X), y=shown(0, X), z=shown(1, X))
        self.assert_gap(None, [(then(Y, shown(0, X)), "book", ()), (then(shown(1, X), Z), "book", ())], book)
        self.assert_gap(0, [(then(Y, shown(0, Y)), "book", ())], book)
        self.assert_gap(0, [(then(X, shown(1, X)), "book", ())], book)
        self.assert_gap(0, [(then(shown(0, X), Z), "book", ())], book)

    def test_spread(self):
        right = [then(shown(k, then(s, t)), then(shown(k, s), shown(k, t)))
                 for k in range(3) for s, t in ((X, Y), (X, X), (shown(0, X), no(G)), (then(X, Y), FALSE))]
        wrong = [then(shown(0, then(X, Y)), then(shown(0, Y), shown(0, X))), shown(0, then(X, Y)),
                 then(shown(0, ("and", X, Y)), then(shown(0, X), shown(0, Y))),
                 then(then(shown(0, X), shown(0, Y)), shown(0, then(X, Y))), then(X, Y), then(shown(0, X), shown(0, X)),
                 then(shown(1, then(X, Y)), then(shown(0, X), shown(0, Y))),
                 then(shown(0, then(X, Y)), then(shown(1, X), shown(1, Y))),
                 then(shown(0, then(X, Y)), then(shown(0, X), shown(1, Y))),
                 then(shown(0, then(X, Y)), then(shown(1, X), shown(0, Y))),
                 then(then(X, Y), then(shown(0, X), shown(0, Y)))]
        self.assert_rule("spread", right, wrong)

    def test_self(self):
        right = [then(shown(k, then(shown(k, s), s)), shown(k, s)) for k in range(3)
                 for s in (X, shown(k, X), no(G), FALSE)]
        wrong = [then(shown(0, then(shown(0, X), Y)), shown(0, X)), then(shown(0, then(shown(0, X), X)), shown(0, Y)),
                 then(shown(0, then(shown(0, Y), X)), shown(0, X)), then(shown(0, then(shown(1, X), X)), shown(0, X)),
                 then(shown(1, then(shown(0, X), X)), shown(0, X)), then(shown(0, then(shown(0, X), X)), shown(1, X)),
                 then(shown(0, then(X, shown(0, X))), shown(0, X)), then(shown(0, then(shown(0, X), X)), X),
                 then(then(shown(0, X), X), shown(0, X)), then(shown(0, X), X), X]
        self.assert_rule("self", right, wrong)

    def test_rise(self):
        right = [then(shown(k, s), shown(k + 1, s)) for k in range(2) for s in (X, shown(k, X), no(G), FALSE)]
        wrong = [then(shown(0, X), shown(2, X)), then(shown(0, X), shown(0, X)), then(shown(1, X), shown(0, X)),
                 then(shown(2, X), shown(2, X)), then(shown(2, X), shown(0, X)), then(shown(0, X), shown(1, Y)),
                 then(shown(0, X), X), then(X, shown(0, X)), shown(1, X), then(X, Y),
                 then(no(shown(0, X)), no(shown(1, X)))]
        self.assert_rule("rise", right, wrong)

    def test_mark(self):
        right = [then(no(shown(k, s)), shown(k + 1, no(shown(k, s)))) for k in range(2)
                 for s in (X, shown(k, X), no(G), FALSE)]
        wrong = [then(no(shown(0, X)), shown(2, no(shown(0, X)))), then(no(shown(0, X)), shown(0, no(shown(0, X)))),
                 then(no(shown(2, X)), shown(2, no(shown(2, X)))), then(no(shown(2, X)), shown(0, no(shown(2, X)))),
                 then(no(shown(0, X)), shown(1, no(shown(0, Y)))), then(no(shown(0, X)), shown(1, no(shown(1, X)))),
                 then(shown(0, X), shown(1, shown(0, X))), then(no(shown(0, X)), no(shown(1, X))),
                 then(no(X), shown(1, no(X))),
                 then(no(shown(0, X)), shown(1, X)), no(shown(0, X)),
                 then(no(no(shown(0, X))), shown(1, no(no(shown(0, X)))))]
        self.assert_rule("mark", right, wrong)

    def test_the_last_level_has_no_next_one(self):
        for levels in (1, 2, 3):
            book, last = Book(levels, [("x", shown(0, X))]), levels - 1
            for sentence in (then(shown(last, X), shown(levels, X)),
                             then(no(shown(last, X)), shown(levels, no(shown(last, X))))):
                self.assert_raises(InvalidSentence(0), book, [(sentence, "rise", ())])
                self.assert_raises(InvalidSentence(0), book, [(sentence, "mark", ())])
            self.assert_gap(0, [(then(shown(last, X), shown(last, X)), "rise", ())], book)
            self.assert_gap(0, [(then(no(shown(last, X)), shown(last, no(shown(last, X)))), "mark", ())], book)

    def test_truth(self):
        right = [TRUE, no(FALSE), then(X, X), ("or", X, no(X)), then(FALSE, X), then(X, TRUE), no(("and", X, no(X))),
                 then(then(then(X, Y), X), X), then(("and", X, Y), X), then(X, ("or", Y, X)), then(no(no(X)), X),
                 then(shown(0, X), shown(0, X)), ("or", shown(1, X), no(shown(1, X))), ("and", TRUE, TRUE),
                 ("or", FALSE, TRUE),
                 then(X, then(Y, ("and", X, Y))), then(then(X, Y), then(no(Y), no(X)))]
        wrong = [FALSE, X, no(X), shown(0, X), shown(0, TRUE), shown(0, then(X, X)), then(X, Y), ("or", X, Y),
                 ("and", X, X),
                 then(shown(0, X), shown(1, X)), then(shown(0, X), X), then(shown(0, X), shown(0, no(no(X)))),
                 ("or", shown(0, X), no(shown(0, Y))), then(TRUE, X), then(X, FALSE), ("and", TRUE, FALSE),
                 ("or", FALSE, FALSE),
                 then(X, shown(0, X)), then(shown(0, ("and", X, Y)), shown(0, ("and", Y, X)))]
        for sentence in right:
            self.assert_gap(None, [(sentence, "truth", ())])
            for other in exchanged(sentence):
                self.assert_gap(None if is_truth(other) else 0, [(other, "truth", ())])
            for sources in ((0,), (-1,), (0, 0)):
                self.assert_gap(1, [(TRUE, "truth", ()), (sentence, "truth", sources)])
        for sentence in wrong:
            self.assert_gap(0, [(sentence, "truth", ())])

    def test_truth_with_eight_and_with_nine_letters(self):
        shows = [shown(at % 3, letter) for at, letter in enumerate(LETTERS)]
        for letters in (LETTERS, shows, LETTERS[:4] + shows[:5]):
            for many in range(1, 10):
                some = joined("and", letters[:many])
                for sentence in (then(some, some), then(some, letters[many - 1]),
                                 then(letters[0], joined("or", letters[:many]))):
                    self.assert_gap(None if many <= 8 else 0, [(sentence, "truth", ())])
                # It is false for one of the rows of truth values only.
                for odd in (0, many - 1):
                    parts = [no(letter) if at == odd else letter for at, letter in enumerate(letters[:many])]
                    self.assert_gap(0, [(joined("or", parts), "truth", ())])
        self.assert_gap(0, [(("or", TRUE, joined("and", LETTERS)), "truth", ())])

    def test_equal_parts_are_one_letter(self):
        part = shown(1, joined("and", LETTERS))
        eight = [part] + LETTERS[:7]
        self.assert_gap(None, [(then(joined("and", eight), joined("or", eight)), "truth", ())])
        self.assert_gap(0, [(then(joined("and", eight + [LETTERS[7]]), part), "truth", ())])
        # Names inside of shown are no letters, and equal names at other levels are two.
        self.assert_gap(None, [(then(part, ("or", X, part)), "truth", ())])
        self.assert_gap(0, [(then(shown(0, X), shown(1, X)), "truth", ())])
        nested = shown(0, shown(0, X))
        self.assert_gap(None, [(then(nested, nested), "truth", ())])
        self.assert_gap(0, [(then(nested, shown(0, X)), "truth", ())])
        many = [shown(0, letter) for letter in LETTERS[:8]] + [shown(0, LETTERS[0])]
        self.assert_gap(None, [(then(joined("and", many), many[8]), "truth", ())])
        ninth = [shown(0, letter) for letter in LETTERS[:8]] + [LETTERS[0]]
        self.assert_gap(0, [(then(joined("and", ninth), ninth[8]), "truth", ())])

    def test_drawn_truths(self):
        drawing = BookDrawing(51)
        book, found = a_book(), 0
        for _ in range(1500):
            sentence = drawing.sentence(3, ["x", "y", "g"], drawing.randint(1, 9), free=True)
            wanted = is_truth(sentence)
            found += wanted
            self.assertEqual(first_gap(book, [(sentence, "truth", ())]), None if wanted else 0, sentence)
        self.assertGreater(found, 60)


class SourceTest(DerivationCase):
    """The rules with sources."""

    def test_box(self):
        start = [(then(X, X), "truth", ()), (then(shown(0, X), X), "book", ()), (TRUE, "truth", ())]
        for source, (sentence, _, _) in enumerate(start):
            for level in range(3):
                self.assert_gap(None, start + [(shown(level, sentence), "box", (source,))])
                for sources in ((), (3,), (4,), (-1,), (-4,), (-3 + source,), (source, source), (source, 0), (10**29,)):
                    self.assert_gap(3, start + [(shown(level, sentence), "box", sources), (TRUE, "truth", ())])
                for other in range(3):
                    if other != source:
                        self.assert_gap(3, start + [(shown(level, sentence), "box", (other,))])
                for rule in RULES[:6] + ["cut", "Box", "", "boxes"]:
                    self.assert_gap(3, start + [(shown(level, sentence), rule, (source,))])
            for wrong in (sentence, no(sentence), no(shown(0, sentence)), shown(0, shown(0, sentence)),
                          shown(0, no(sentence))):
                if wrong != sentence or source != 2:
                    self.assert_gap(3, start + [(wrong, "box", (source,))])

    def test_box_of_a_step_that_was_boxed(self):
        steps = [(TRUE, "truth", ()), (shown(2, TRUE), "box", (0,)), (shown(0, shown(2, TRUE)), "box", (1,))]
        self.assert_gap(None, steps)
        self.assert_gap(2, steps[:2] + [(shown(0, shown(2, TRUE)), "box", (0,))])

    def test_cut(self):
        book = a_book()
        start = [(then(X, X), "truth", ()), (then(then(X, X), TRUE), "truth", ()), (TRUE, "truth", ()),
                 (then(TRUE, then(X, X)), "truth", ())]
        self.assert_gap(None, start + [(TRUE, "cut", (0, 1)), (then(X, X), "cut", (2, 3)), (then(X, X), "cut", (4, 3))])
        for sources in itertools.product(range(-1, 6), repeat=2):
            for sentence in (TRUE, then(X, X), then(TRUE, then(X, X)), X):
                steps = start + [(sentence, "cut", sources), (TRUE, "truth", ())]
                right = (sentence, sources) in ((TRUE, (0, 1)), (then(X, X), (2, 3)))
                self.assertEqual(is_right(book, steps, 4), right)
                self.assert_gap(None if right else 4, steps)
        for sources in ((), (0,), (1,), (0, 1, 1), (0, 0, 1), (0, 1, 0), (-4, -3), (0, -3), (-4, 1)):
            self.assert_gap(4, start + [(TRUE, "cut", sources)])
        for rule in RULES[:7] + ["Cut", "", "cuts"]:
            self.assert_gap(4, start + [(TRUE, rule, (0, 1))])

    def test_cut_needs_then(self):
        start = [(X, "truth", ()), (Y, "truth", ())]
        for word in ("and", "or"):
            steps = start + [((word, X, Y), "truth", ()), (Y, "cut", (0, 2))]
            self.assertFalse(is_right(a_book(), steps, 3))
            self.assert_gap(0, steps)
        for sentence in (("or", TRUE, X), ("or", X, TRUE)):
            self.assert_gap(2, [(TRUE, "truth", ()), (sentence, "truth", ()), (X, "cut", (0, 1))])
        self.assert_gap(2, [(TRUE, "truth", ()), (("and", TRUE, TRUE), "truth", ()), (TRUE, "cut", (0, 1))])

    def test_an_index_of_this_or_a_later_step(self):
        steps = [(shown(0, TRUE), "box", (1,)), (TRUE, "truth", ())]
        self.assert_gap(0, steps)
        self.assert_gap(0, [(shown(0, TRUE), "box", (0,)), (TRUE, "truth", ())])
        self.assert_gap(None, steps[::-1][:1] + [(shown(0, TRUE), "box", (0,))])

    def test_a_step_is_right_by_itself(self):
        # The first gap is told, but the steps behind it may be right.
        steps = [(TRUE, "truth", ()), (FALSE, "truth", ()), (shown(0, FALSE), "box", (1,)), (X, "truth", ())]
        self.assert_gap(1, steps)
        self.assertTrue(is_right(a_book(), steps, 2))

    def test_no_steps(self):
        for book in (a_book(), Book.empty(1)):
            for steps in ([], ()):
                self.assertIsNone(first_gap(book, steps))
                self.assertIs(derivation_holds(book, steps), True)

    def test_tuples_keywords_and_arguments(self):
        steps = [(TRUE, "truth", ()), (shown(0, TRUE), "box", (0,))]
        kept, book = copy.deepcopy(steps), a_book()
        self.assertTrue(derivation_holds(steps=tuple(steps), book=book))
        self.assertIsNone(first_gap(steps=steps, book=book))
        self.assertEqual((steps, book == a_book()), (kept, True))


class ErrorTest(DerivationCase):
    def test_invalid_sentences(self):
        book = Book.made_of(2, x=shown(0, X))
        right = (TRUE, "truth", ())
        for value in (None, 0, True, "x", (), [], ("x",), shown(2, TRUE), shown(True, TRUE), shown(-1, X), ["true"],
                      ("not",)):
            self.assert_raises(InvalidSentence(0), book, [(value, "truth", ())])
            self.assert_raises(InvalidSentence(1), book, [right, (value, "none", (7,)), (None, "", ())])
            self.assert_raises(InvalidSentence(2), book, [(X, "truth", ()), (U, "box", (0,)), (value, "cut", (0, 1)),
                                                          right])

    def test_unknown_names(self):
        book = Book.made_of(2, x=shown(0, X))
        right = (TRUE, "truth", ())
        self.assert_raises(UnknownName("u"), book, [(U, "truth", ())])
        self.assert_raises(UnknownName("u"), book, [(FALSE, "truth", ()), right,
                                                    (("and", shown(0, U), V), "box", (5,))])
        self.assert_raises(UnknownName("v"), book, [right, (then(X, shown(1, V)), "", ()), (U, "truth", ())])
        self.assert_raises(UnknownName("u"), Book.empty(1), [(then(U, U), "truth", ())])

    def test_invalid_sentences_come_first(self):
        book = Book.made_of(2, x=shown(0, X))
        self.assert_raises(InvalidSentence(1), book, [(U, "truth", ()), (shown(2, V), "truth", ())])
        self.assert_raises(InvalidSentence(2), book, [(FALSE, "truth", ()), (U, "box", (-1,)), (0, "", ()),
                                                      (None, "", ())])


class ValidTest(DerivationCase):
    """All sentences of right derivations are valid."""

    def drawn_start(self, drawing, book):
        def draw():
            return drawing.sentence(book.levels, book.names(), drawing.randint(1, 4), free=True)

        s, t, k = draw(), draw(), drawing.randrange(book.levels)
        name = drawing.choice(book.names())
        starts = [
            (then(s, then(t, s)), "truth"), (then(then(no(s), no(t)), then(t, s)), "truth"),
            (then(("name", name), book[name]), "book"), (then(book[name], ("name", name)), "book"),
            (then(shown(k, then(s, t)), then(shown(k, s), shown(k, t))), "spread"),
            (then(shown(k, then(shown(k, s), s)), shown(k, s)), "self"),
        ]
        if k + 1 < book.levels:
            starts.append((then(shown(k, s), shown(k + 1, s)), "rise"))
            starts.append((then(no(shown(k, s)), shown(k + 1, no(shown(k, s)))), "mark"))
        return drawing.choice(starts) + ((),)

    def drawn_step(self, drawing, book, steps):
        """A right step behind some others."""
        cuts = [(other[2], "cut", (i, j)) for i, (one, _, _) in enumerate(steps)
                for j, (other, _, _) in enumerate(steps) if other[0] == "then" and other[1] == one]
        chance = drawing.random()
        if cuts and chance < 0.5:
            return drawing.choice(cuts)
        if not steps or chance > 0.8:
            return self.drawn_start(drawing, book)
        at = drawing.randrange(len(steps))
        weaker = then(steps[at][0], ("or", ("name", book.names()[0]), steps[at][0]))
        if chance < 0.6 and is_truth(weaker):
            return (weaker, "truth", ())
        return (shown(drawing.randrange(book.levels), steps[at][0]), "box", (at,))

    def test_drawn_derivations(self):
        drawing = BookDrawing(52)
        asked, rules = 0, set()
        for book in drawing.books(150, most=3, size=7):
            steps = []
            for _ in range(10):
                steps.append(self.drawn_step(drawing, book, steps))
            self.assert_gap(None, steps, book)
            for sentence, rule, _ in steps:
                try:
                    self.assertTrue(book.is_valid(sentence), (book.pairs(), sentence))
                except TooMany:
                    continue
                asked += 1
                rules.add(rule)
        self.assertGreater(asked, 400)
        self.assertEqual(rules, set(RULES))

    def test_what_is_not_valid_is_not_derived(self):
        drawing = BookDrawing(53)
        found = 0
        for book in drawing.books(100, most=3, size=7):
            steps = [self.drawn_start(drawing, book)]
            for _ in range(8):
                sentence = drawing.sentence(book.levels, book.names(), drawing.randint(1, 5), free=True)
                sources = [(), (0,), (0, 0)][drawing.randrange(3)]
                try:
                    valid = book.is_valid(sentence)
                except TooMany:
                    continue
                for rule in RULES:
                    if not valid:
                        found += 1
                        self.assert_gap(1, steps + [(sentence, rule, sources)], book)
        self.assertGreater(found, 1000)

    def test_the_sentence_that_says_that_it_can_be_shown(self):
        for levels in (1, 2, 3):
            for level in range(levels):
                book = Book.made_of(levels, x=shown(level, X))
                steps = [
                    (then(shown(level, X), X), "book", ()),
                    (shown(level, then(shown(level, X), X)), "box", (0,)),
                    (then(shown(level, then(shown(level, X), X)), shown(level, X)), "self", ()),
                    (shown(level, X), "cut", (1, 2)),
                    (X, "cut", (3, 0)),
                ]
                self.assert_gap(None, steps, book)
                for sentence, _, _ in steps:
                    self.assertTrue(book.is_valid(sentence))

    def test_the_sentence_that_says_that_it_cannot_be_shown(self):
        for levels in (1, 2, 3):
            for level in range(levels):
                book = Book.made_of(levels, g=no(shown(level, G)))
                shows, absurd = shown(level, G), shown(level, FALSE)
                denied = then(G, no(shows))
                inner = then(no(shows), G)
                # If it can be shown, it can be shown that it cannot, and so all can be shown.
                steps = [
                    (denied, "book", ()),
                    (inner, "book", ()),
                    (then(inner, then(then(no(shows), FALSE), shows)), "truth", ()),
                    (then(FALSE, G), "truth", ()),
                    (shown(level, then(FALSE, G)), "box", (3,)),
                    (then(shown(level, then(FALSE, G)), then(absurd, shows)), "spread", ()),
                    (then(absurd, shows), "cut", (4, 5)),
                    (then(denied, then(then(absurd, shows), then(G, no(absurd)))), "truth", ()),
                    (then(then(absurd, shows), then(G, no(absurd))), "cut", (0, 7)),
                    (then(G, no(absurd)), "cut", (6, 8)),
                    (shown(level, then(G, no(absurd))), "box", (9,)),
                ]
                self.assert_gap(None, steps, book)
                for sentence, _, _ in steps:
                    self.assertTrue(book.is_valid(sentence), sentence)
                self.assertFalse(book.is_valid(G))
                self.assert_gap(11, steps + [(G, "cut", (10, 1))], book)
                # It says just that the absurd cannot be shown.
                self.assertEqual(book.meaning(G), book.meaning(no(absurd)))


if __name__ == "__main__":
    unittest.main()
