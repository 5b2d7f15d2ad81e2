import copy
import unittest

from tests.drawn_books import BookDrawing
from tests.samples import OMEGA, OMEGA_TWICE, ONE, TOWER, TWO, ZERO
from vowstair.books import Book
from vowstair.errors import (
    DuplicateName, InvalidLevels, InvalidName, InvalidRow, InvalidSentence, TooMany, Unguarded, UnknownName, VowError,
)
from vowstair.evaluation import meaning_of
from vowstair.meanings import Meaning
from vowstair.ordinals import natural, omega_power, successor
from vowstair.rows import least_row
from vowstair.sentences import FALSE, TRUE

G, U, V, W, X, Y, Z = [("name", name) for name in "guvwxyz"]
LETTERS = "abcdefghijklmnop"
MANY = [(letter, ("shown", 0, ("name", letter))) for letter in LETTERS]


def shown(level, sentence, times=1):
    for _ in range(times):
        sentence = ("shown", level, sentence)
    return sentence


def all_of(sentences):
    found = sentences[0]
    for sentence in sentences[1:]:
        found = ("and", found, sentence)
    return found


# Thirteen different slots.
SLOTS = [shown(0, FALSE, times) for times in range(1, 14)]


class BookCase(unittest.TestCase):
    def assert_raises(self, error, call, *values, **named):
        with self.assertRaises(type(error)) as held:
            call(*values, **named)
        self.assertEqual(vars(held.exception), vars(error))


class ConstructorTest(BookCase):
    def test_levels_first(self):
        for levels in (0, -1, 4, 10**29):
            self.assert_raises(InvalidLevels(), Book, levels)
            self.assert_raises(InvalidLevels(), Book, levels, [("X", None)])
            self.assert_raises(InvalidLevels(), Book.empty, levels)
            self.assert_raises(InvalidLevels(), Book.made_of, levels, x=X)

    def test_names(self):
        for name in ("", "X", "x1", "abcdefg", "true", "shown", "x y", " x"):
            self.assert_raises(InvalidName(name), Book, 1, [("a", TRUE), (name, None), ("a", TRUE)])

    def test_names_that_are_there_already(self):
        self.assert_raises(DuplicateName("x"), Book, 1, [("x", TRUE), ("y", TRUE), ("x", None)])
        self.assert_raises(DuplicateName("x"), Book, 1, [("x", TRUE), ("x", TRUE), ("X", TRUE)])

    def test_sentences_with_the_index_of_the_pair(self):
        for value in (None, "x", (), ("nothing",), ("shown", 1, TRUE), ("shown", True, TRUE), ["true"], ("name", "X")):
            self.assert_raises(InvalidSentence(0), Book, 1, [("x", value), ("x", TRUE)])
            self.assert_raises(InvalidSentence(2), Book, 1, [("x", TRUE), ("y", TRUE), ("z", value), ("", None)])

    def test_the_first_wrong_pair_decides(self):
        self.assert_raises(InvalidSentence(0), Book, 1, [("x", None), ("X", TRUE)])
        self.assert_raises(InvalidName("X"), Book, 1, [("X", None), ("x", None)])
        self.assert_raises(InvalidName("X"), Book, 1, [("x", U), ("X", None)])

    def test_twelve_names_and_one_more(self):
        self.assertEqual(len(Book(1, [(letter, TRUE) for letter in LETTERS[:12]])), 12)
        self.assertEqual(len(Book(1, MANY[:12])), 12)
        self.assert_raises(TooMany(12), Book, 1, MANY[:13])
        self.assert_raises(TooMany(12), Book, 1, MANY)
        # The errors of single pairs come before, the others behind.
        self.assert_raises(InvalidSentence(12), Book, 1, MANY[:12] + [("m", None)])
        self.assert_raises(DuplicateName("a"), Book, 1, MANY[:12] + [("a", TRUE)])
        self.assert_raises(TooMany(12), Book, 1, [("a", U)] + MANY[1:13])

    def test_unknown_names_and_open_names(self):
        self.assert_raises(UnknownName("y"), Book, 1, [("x", shown(0, Y))])
        self.assert_raises(UnknownName("v"), Book, 1, [("x", ("and", shown(0, ("or", X, V)), U))])
        self.assert_raises(Unguarded("x"), Book, 1, [("x", X)])
        self.assert_raises(Unguarded("y"), Book, 1, [("x", shown(0, Y)), ("y", ("not", X)), ("z", U)])
        self.assert_raises(UnknownName("u"), Book, 1, [("x", ("and", X, U)), ("y", Y)])
        self.assert_raises(Unguarded("x"), Book, 1, [("x", ("and", shown(0, X), X)), ("y", U)])
        self.assert_raises(UnknownName("u"), Book, 1, [("y", shown(0, U)), ("x", X)])

    def test_names_that_are_spoken_of_before_their_pair(self):
        book = Book(2, [("x", shown(0, Y)), ("y", shown(1, Z)), ("z", shown(0, X))])
        self.assertEqual(book.names(), ["x", "y", "z"])

    def test_twelve_slots_and_one_more(self):
        self.assertEqual(len(Book(1, [("x", all_of(SLOTS[:12]))]).slots()), 12)
        self.assertEqual(len(Book(1, [("x", SLOTS[11])]).slots()), 12)
        self.assertEqual(len(Book(1, [("x", all_of(SLOTS[:7])), ("y", all_of(SLOTS[:12]))]).slots()), 12)
        self.assert_raises(TooMany(12), Book, 1, [("x", SLOTS[12])])
        self.assert_raises(TooMany(12), Book, 1, [("x", SLOTS[11]), ("y", shown(0, Y))])
        self.assert_raises(TooMany(12), Book, 2, [("x", SLOTS[11]), ("y", shown(1, FALSE))])
        self.assert_raises(Unguarded("y"), Book, 1, [("x", SLOTS[12]), ("y", Y)])
        self.assert_raises(UnknownName("u"), Book, 1, [("x", SLOTS[12]), ("y", shown(0, U))])

    def test_limits(self):
        self.assertEqual((Book.MAX_NAMES, Book.MAX_SLOTS), (12, 12))

    def test_by_keyword_and_with_a_tuple(self):
        pairs = [("x", shown(0, X)), ("y", TRUE)]
        self.assertEqual(Book(pairs=tuple(pairs), levels=2), Book(2, pairs))

    def test_the_passed_list_is_not_kept(self):
        pairs = [("x", shown(0, X)), ("y", TRUE)]
        kept = copy.deepcopy(pairs)
        book = Book(1, pairs)
        self.assertEqual(pairs, kept)
        pairs.append(("z", TRUE))
        pairs[0] = ("u", FALSE)
        self.assertEqual((book.pairs(), book.names(), len(book)), (kept, ["x", "y"], 2))


class PartsTest(BookCase):
    def book(self):
        return Book(2, [("x", shown(0, Y)), ("y", ("and", shown(1, X), shown(0, ("not", shown(1, X)))))])

    def test_names_pairs_and_slots(self):
        book = self.book()
        self.assertEqual(book.levels, 2)
        self.assertEqual(book.names(), ["x", "y"])
        second = ("and", shown(1, X), shown(0, ("not", shown(1, X))))
        self.assertEqual(book.pairs(), [("x", shown(0, Y)), ("y", second)])
        self.assertEqual(book.slots(), [(0, Y), (1, X), (0, ("not", shown(1, X)))])
        self.assertEqual([type(pair) for pair in book.pairs() + book.slots()], [tuple] * 5)

    def test_slots_in_the_order_of_the_first_occurrences(self):
        pairs = [("z", shown(0, shown(1, Z))), ("x", ("or", shown(1, X), shown(1, Z))), ("y", shown(0, FALSE))]
        self.assertEqual(Book(2, pairs).slots(), [(0, shown(1, Z)), (1, Z), (1, X), (0, FALSE)])
        wanted = [(0, FALSE), (1, X), (1, Z), (0, shown(1, Z))]
        self.assertEqual(Book(2, pairs[::-1]).slots(), wanted)

    def test_returned_lists_are_new(self):
        book = self.book()
        for call in (book.names, book.pairs, book.slots):
            found = call()
            kept = list(found)
            self.assertIs(type(found), list)
            found.reverse()
            found.append(None)
            self.assertEqual(call(), kept)
        self.assertEqual(book, self.book())

    def test_sentence_of_a_name(self):
        book = self.book()
        self.assertEqual([book["x"], book["y"]], [sentence for _, sentence in book.pairs()])
        for name in ("z", "", "X", "true"):
            self.assert_raises(UnknownName(name), lambda: book[name])
            self.assert_raises(UnknownName(name), lambda: Book.empty(1)[name])

    def test_in_and_len(self):
        book = self.book()
        self.assertEqual([name in book for name in ("x", "y", "z", "", "X", "xy")], [True, True] + [False] * 4)
        self.assertEqual([len(book), len(Book.empty(3)), "x" in Book.empty(3)], [2, 0, False])

    def test_equal(self):
        pairs = self.book().pairs()
        self.assertTrue(self.book() == Book(2, pairs))
        self.assertFalse(self.book() != Book(2, pairs))
        for other in (Book(3, pairs), Book(2, pairs[::-1]), Book(2, pairs + [("z", TRUE)]), Book.empty(2)):
            self.assertFalse(self.book() == other)
            self.assertTrue(self.book() != other)
        self.assertFalse(Book.empty(1) == Book.empty(2))
        self.assertTrue(Book.empty(1) == Book(1))
        for value in (None, True, 0, 2, "", [], pairs, {}, {"x": TRUE}, Meaning.always(2), Book):
            self.assertFalse(self.book() == value)
            self.assertFalse(Book.empty(1) == value)
            self.assertTrue(self.book() != value)

    def test_repr(self):
        self.assertEqual(repr(self.book()), "Book(2 levels, 2 names)")
        self.assertEqual(repr(Book.empty(1)), "Book(1 levels, 0 names)")
        self.assertEqual(repr(Book.made_of(3, x=TRUE)), "Book(3 levels, 1 names)")

    def test_empty(self):
        for levels in (1, 2, 3):
            book = Book.empty(levels)
            self.assertEqual((book.levels, book.names(), book.pairs(), book.slots()), (levels, [], [], []))
            self.assertTrue(book.is_valid(TRUE))
        self.assertEqual(Book.empty(levels=2), Book(2))

    def test_made_of(self):
        book = Book.made_of(2, y=shown(0, X), x=shown(1, Y))
        self.assertEqual(book, Book(2, [("y", shown(0, X)), ("x", shown(1, Y))]))
        self.assertEqual(Book.made_of(levels=1), Book.empty(1))
        words = {"self": TRUE, "pairs": FALSE, "name": shown(0, ("name", "self")), "book": TRUE}
        self.assertEqual(Book.made_of(1, **words), Book(1, list(words.items())))
        self.assert_raises(InvalidName("toolong"), Book.made_of, 1, x=TRUE, toolong=None)
        self.assert_raises(InvalidSentence(1), Book.made_of, 1, x=TRUE, y=shown(1, X), z=None)
        self.assert_raises(Unguarded("x"), Book.made_of, 1, x=X)

    def test_a_book_is_not_iterable(self):
        for call in (iter, list, tuple, sorted, enumerate, set, dict):
            for book in (self.book(), Book.empty(1)):
                with self.assertRaises(TypeError):
                    call(book)
        with self.assertRaises(TypeError):
            for _ in self.book():
                pass

    def test_levels_cannot_be_assigned(self):
        with self.assertRaises(AttributeError):
            self.book().levels = 3


def count_up(book, most):
    """Which slots of a book of one level stand at the numbers 0, 1, 2 and so on."""
    pairs, slots = dict(book.pairs()), book.slots()
    stand = {slot: True for slot in slots}

    def is_true(sentence):
        word = sentence[0]
        if word == "name":
            return is_true(pairs[sentence[1]])
        if word == "shown":
            return stand[sentence[1:]]
        parts = [is_true(part) for part in sentence[1:]]
        return {
            "true": lambda: True, "false": lambda: False, "not": lambda: not parts[0],
            "and": lambda: all(parts), "or": lambda: any(parts), "then": lambda: not parts[0] or parts[1],
        }[word]()

    for _ in range(most):
        yield {name: is_true(sentence) for name, sentence in pairs.items()}
        stand = {slot: stand[slot] and is_true(slot[1]) for slot in slots}


class SolutionTest(BookCase):
    def test_the_example(self):
        book = Book(1, [("x", ("shown", 0, ("name", "x"))), ("g", ("not", ("shown", 0, ("name", "g"))))])
        found = [book.is_valid(("name", "x")), book.meaning(("name", "g")).stair(), book.in_the_end(("name", "g"))]
        self.assertEqual(found, [True, (((), False), ((((), 1),), True)), True])

    def test_books_of_one_level_against_a_count(self):
        drawing = BookDrawing(1)
        for _ in range(120):
            book = drawing.book(1, most=5, size=16)
            counted = list(count_up(book, 14))
            for name in book.names():
                meaning = book.meaning(("name", name))
                for number, told in enumerate(counted):
                    self.assertIs((natural(number),) in meaning, told[name])
                    self.assertIs(book.stands(("name", name), (natural(number),)), told[name])
                for ordinal in (natural(10**29), OMEGA, TOWER):
                    self.assertIs((ordinal,) in meaning, counted[-1][name])
                self.assertIs(book.in_the_end(("name", name)), counted[-1][name])
                self.assertIs(book.is_valid(("name", name)), all(told[name] for told in counted))

    def test_each_name_stands_where_its_sentence_stands(self):
        drawing = BookDrawing(2)
        for book in drawing.books(150, most=5, size=18):
            meanings = [(name, book.meaning(("name", name))) for name in book.names()]
            for name, sentence in book.pairs():
                self.assertEqual(meaning_of(book.levels, sentence, names=meanings), dict(meanings)[name])
                self.assertEqual(book.meaning(sentence), dict(meanings)[name])

    def test_books_of_twelve_slots(self):
        drawing = BookDrawing(3)
        found = 0
        while found < 12:
            book = drawing.book(3, most=12, size=20)
            if len(book.slots()) < 11:
                continue
            found += 1
            meanings = [(name, book.meaning(("name", name))) for name in book.names()]
            for name, sentence in book.pairs():
                self.assertEqual(meaning_of(3, sentence, names=meanings), dict(meanings)[name])

    def test_sentences_with_further_slots(self):
        drawing = BookDrawing(4)
        asked = 0
        for book in drawing.books(150):
            meanings = [(name, book.meaning(("name", name))) for name in book.names()]
            sentence = drawing.sentence(book.levels, book.names(), drawing.randint(3, 16), free=True)
            try:
                meaning = book.meaning(sentence)
            except TooMany:
                continue
            asked += 1
            self.assertEqual(meaning, meaning_of(book.levels, sentence, names=meanings))
            self.assertEqual(book.is_valid(sentence), meaning.everywhere())
            self.assertEqual(book.in_the_end(sentence), meaning.in_the_end())
        self.assertGreater(asked, 100)

    def test_powers_of_omega(self):
        yes, no = ((ZERO, True),), ((ZERO, False),)
        for number in range(1, 9):
            # It fails first at this number of level one.
            low = shown(1, FALSE, number)
            book = Book.made_of(2, x=shown(0, low), y=low)
            wanted = ((ZERO, yes), (successor(omega_power(natural(number))), no))
            self.assertEqual(book.meaning(X).stair(), wanted)
            self.assertEqual(book.meaning(shown(0, Y)).stair(), wanted)
            row = (omega_power(natural(number)), natural(number))
            self.assertIs(book.stands(X, row), True)
            self.assertIs(book.stands(Y, row), False)
            self.assertEqual((-book.meaning(Y)).least(), row)

    def test_multiples_of_powers_of_omega(self):
        yes, no = ((ZERO, True),), ((ZERO, False),)
        for number in range(1, 5):
            low, found = shown(1, FALSE, number), FALSE
            for times in range(1, 5):
                found = shown(0, ("or", found, low))
                begin = successor(omega_power(natural(number), times=times))
                self.assertEqual(Book.made_of(2, x=found).meaning(X).stair(), ((ZERO, yes), (begin, no)))

    def test_powers_of_powers_of_omega(self):
        for number in range(1, 5):
            low = shown(2, FALSE, number)
            place = omega_power(natural(number))
            book = Book.made_of(3, x=shown(1, Y), y=low, z=shown(0, X), u=shown(0, Y))
            self.assertEqual((-book.meaning(Y)).least(), (omega_power(place), place, natural(number)))
            inner = ((ZERO, ((ZERO, True),)), (successor(place), ((ZERO, False),)))
            self.assertEqual(book.meaning(X).stair(), ((ZERO, inner),))
            begins = [step[0] for step in book.meaning(Z).stair()]
            self.assertEqual(begins, [ZERO, successor(omega_power(successor(place)))])
            self.assertEqual([step[0] for step in book.meaning(U).stair()], [ZERO, successor(omega_power(place))])

    def test_sentences_that_speak_of_themselves(self):
        for levels in (1, 2, 3):
            for level in range(levels):
                book = Book.made_of(levels, x=shown(level, X), g=("not", shown(level, G)))
                self.assertIs(book.is_valid(X), True)
                self.assertEqual(book.meaning(G), -meaning_of(levels, shown(level, FALSE)))
                self.assertIs(book.is_valid(("then", shown(level, G), FALSE)), False)
                self.assertIs(book.in_the_end(("then", shown(level, G), FALSE)), True)

    def test_sentences_that_speak_of_each_other(self):
        # Each says that the other one cannot be shown: the two are alike.
        book = Book.made_of(1, x=("not", shown(0, Y)), y=("not", shown(0, X)))
        self.assertEqual(book.meaning(X).stair(), ((ZERO, False), (ONE, True)))
        self.assertEqual(book.meaning(Y), book.meaning(X))
        # One can be shown at level one exactly where the other cannot at level zero.
        book = Book.made_of(2, x=shown(1, Y), y=("not", shown(0, X)))
        yes, no = ((ZERO, True),), ((ZERO, False),)
        low = ((ZERO, True), (ONE, False))
        self.assertEqual(book.meaning(shown(0, X)).stair(), ((ZERO, yes), (successor(OMEGA), no)))
        self.assertEqual(book.meaning(Y).stair(), ((ZERO, no), (successor(OMEGA), yes)))
        self.assertEqual(book.meaning(X).stair(), ((ZERO, low), (OMEGA_TWICE, yes)))


class QuestionsTest(BookCase):
    def questions(self, book):
        yield book.meaning
        yield book.is_valid
        yield book.in_the_end
        yield lambda sentence: book.stands(sentence, None)
        yield lambda sentence: book.stands(sentence, least_row(book.levels))

    def test_errors_in_their_order(self):
        full = Book(1, [("x", SLOTS[11]), ("y", TRUE)])
        for ask in self.questions(full):
            for value in (None, "x", (), ("shown", 1, X), ("shown", True, U), ("and", U, ("nothing",)), ["true"]):
                self.assert_raises(InvalidSentence(0), ask, value)
            self.assert_raises(UnknownName("u"), ask, U)
            self.assert_raises(UnknownName("v"), ask, ("and", X, ("and", shown(0, V), ("and", U, SLOTS[12]))))
            self.assert_raises(TooMany(12), ask, shown(0, X))
            self.assert_raises(TooMany(12), ask, SLOTS[12])
        for row in (None, 0, (), (ZERO, ZERO), [ZERO], (0,), "0"):
            self.assert_raises(InvalidRow(), full.stands, X, row)

    def test_slots_of_the_book_and_the_sentence_together(self):
        book = Book(1, [("x", SLOTS[9])])
        self.assertIs(book.is_valid(all_of(SLOTS[:12])), False)
        self.assertIs(book.in_the_end(("and", shown(0, X), shown(0, ("not", X)))), False)
        for ask in self.questions(book):
            self.assert_raises(TooMany(12), ask, SLOTS[12])
            self.assert_raises(TooMany(12), ask, all_of([shown(0, X), shown(0, ("not", X)), shown(0, TRUE)]))
        self.assertIs(Book.empty(1).is_valid(all_of(SLOTS[:12])), False)
        self.assert_raises(TooMany(12), Book.empty(1).meaning, SLOTS[12])

    def test_answers(self):
        book = Book.made_of(2, x=shown(0, FALSE), y=("not", shown(1, FALSE)))
        self.assertIsInstance(book.meaning(X), Meaning)
        self.assertEqual(book.meaning(sentence=("or", X, Y)).levels, 2)
        self.assertIs(book.stands(row=(ZERO, ZERO), sentence=X), True)
        self.assertIs(book.stands(X, (ONE, ZERO)), False)
        self.assertEqual([book.stands(Y, row) for row in ((OMEGA, ZERO), (OMEGA, ONE))], [False, True])
        self.assertEqual([book.is_valid(sentence=("or", X, ("not", X))), book.is_valid(X)], [True, False])
        self.assertEqual([book.in_the_end(sentence=X), book.in_the_end(Y)], [False, True])

    def test_open_names_may_be_asked_for(self):
        book = Book.made_of(1, x=shown(0, FALSE), y=("not", shown(0, FALSE)))
        self.assertIs(book.is_valid(("or", X, Y)), True)
        self.assertIs(book.is_valid(("and", X, shown(0, Y))), False)

    def test_the_book_stays_as_it_is(self):
        book = Book.made_of(2, x=shown(0, Y), y=("not", shown(1, X)))
        kept = (book.pairs(), book.slots(), book.names())
        first = book.meaning(("and", X, shown(1, Y)))
        self.assertEqual(book.meaning(("and", X, shown(1, Y))), first)
        self.assertEqual((book.pairs(), book.slots(), book.names()), kept)


class FactsTest(BookCase):
    def drawn(self, seed, many=120):
        drawing = BookDrawing(seed)
        for book in drawing.books(many, most=3, size=9):
            for level in range(book.levels):
                s = drawing.sentence(book.levels, book.names(), drawing.randint(1, 7), free=True)
                t = drawing.sentence(book.levels, book.names(), drawing.randint(1, 7), free=True)
                yield book, level, s, t

    def assert_valid(self, book, sentence):
        try:
            self.assertIs(book.is_valid(sentence), True, (book.pairs(), sentence))
        except TooMany:
            return 0
        return 1

    def test_the_four_implications(self):
        asked = [0, 0, 0, 0]
        for book, k, s, t in self.drawn(1):
            asked[0] += self.assert_valid(book, ("then", shown(k, ("then", s, t)), ("then", shown(k, s), shown(k, t))))
            asked[1] += self.assert_valid(book, ("then", shown(k, ("then", shown(k, s), s)), shown(k, s)))
            if k + 1 < book.levels:
                asked[2] += self.assert_valid(book, ("then", shown(k, s), shown(k + 1, s)))
                not_shown = ("not", shown(k, s))
                asked[3] += self.assert_valid(book, ("then", not_shown, shown(k + 1, not_shown)))
        self.assertGreater(min(asked), 80)

    def test_what_is_valid_is_shown(self):
        seen = 0
        for book, k, s, _ in self.drawn(2):
            try:
                told = (book.is_valid(s), book.is_valid(shown(k, s)), book.in_the_end(shown(k, s)), book.in_the_end(s))
            except TooMany:
                continue
            seen += told[0]
            self.assertTrue(told[1] or not told[0])
            self.assertTrue(told[3] or not told[2])
        self.assertGreater(seen, 10)

    def test_a_slot_depends_on_the_places_up_to_its_level(self):
        firsts = [ZERO, ONE, OMEGA, successor(OMEGA), OMEGA_TWICE, omega_power(TWO), omega_power(OMEGA), TOWER]
        for book in BookDrawing(3).books(60):
            rows = [()]
            for _ in range(book.levels):
                rows = [row + (ordinal,) for row in rows for ordinal in firsts if not row or ordinal <= ends(row[-1])]
            for level, sentence in book.slots():
                meaning = book.meaning(("shown", level, sentence))
                told, fallen = {}, {}
                for row in sorted(rows):
                    told.setdefault(row[:level + 1], set()).add(row in meaning)
                    if row not in meaning:
                        fallen[row[:level]] = True
                    self.assertEqual(row in meaning, row[:level] not in fallen)
                self.assertEqual({len(found) for found in told.values()}, {1})


def ends(ordinal):
    return ordinal[-1][0] if ordinal else ZERO


class ChangedBooksTest(BookCase):
    def setUp(self):
        self.pairs = [("x", shown(0, Y)), ("y", ("not", shown(1, X))), ("z", shown(0, ("and", Z, Y)))]
        self.book = Book(2, self.pairs)

    def tearDown(self):
        self.assertEqual((self.book.pairs(), self.book.levels), (self.pairs, 2))

    def test_extended_by_a_new_name(self):
        found = self.book.extended("u", shown(1, U))
        self.assertEqual(found, Book(2, self.pairs + [("u", shown(1, U))]))
        self.assertEqual(Book.empty(1).extended(sentence=TRUE, name="x"), Book.made_of(1, x=TRUE))

    def test_extended_by_an_old_name(self):
        found = self.book.extended("y", TRUE)
        self.assertEqual(found.pairs(), [self.pairs[0], ("y", TRUE), self.pairs[2]])

    def test_errors_of_extended(self):
        self.assert_raises(InvalidName("Y"), self.book.extended, "Y", None)
        self.assert_raises(InvalidSentence(3), self.book.extended, "u", ("shown", 2, U))
        self.assert_raises(InvalidSentence(1), self.book.extended, "y", None)
        self.assert_raises(UnknownName("v"), self.book.extended, "u", V)
        self.assert_raises(Unguarded("y"), self.book.extended, "y", X)
        self.assert_raises(TooMany(12), Book(1, MANY[:12]).extended, "m", U)
        self.assertEqual(len(Book(1, MANY[:12]).extended("a", TRUE)), 12)
        self.assert_raises(TooMany(12), self.book.extended, "u", SLOTS[11])

    def test_without(self):
        self.assertEqual(self.book.without("z").pairs(), self.pairs[:2])
        self.assertEqual(Book.made_of(1, x=TRUE, y=TRUE).without(name="x"), Book.made_of(1, y=TRUE))
        self.assertEqual(self.book.extended("x", TRUE).extended("y", TRUE).without("x").names(), ["y", "z"])
        for name in ("u", "", "X", "true"):
            self.assert_raises(UnknownName(name), self.book.without, name)
        self.assert_raises(UnknownName("y"), self.book.without, "y")
        self.assert_raises(UnknownName("x"), self.book.without, "x")

    def test_renamed(self):
        found = self.book.renamed("y", "u")
        wanted = [("x", shown(0, U)), ("u", ("not", shown(1, X))), ("z", shown(0, ("and", Z, U)))]
        self.assertEqual(found.pairs(), wanted)
        self.assertEqual(self.book.renamed(other="w", name="z")["w"], shown(0, ("and", W, Y)))
        self.assertEqual(found.renamed("u", "y"), self.book)

    def test_errors_of_renamed(self):
        self.assert_raises(UnknownName("u"), self.book.renamed, "u", "X")
        self.assert_raises(UnknownName("u"), self.book.renamed, "u", "x")
        for other in ("", "X", "toolong", "not", "x "):
            self.assert_raises(InvalidName(other), self.book.renamed, "x", other)
        for other in ("x", "y", "z"):
            self.assert_raises(DuplicateName(other), self.book.renamed, "x", other)

    def test_inlined(self):
        found = self.book.inlined("y")
        told = ("not", shown(1, X))
        self.assertEqual(found.pairs(), [("x", shown(0, told)), ("y", told), ("z", shown(0, ("and", Z, told)))])
        self.assertEqual(self.book.inlined(name="x")["y"], ("not", shown(1, shown(0, Y))))

    def test_the_inserted_sentence_is_not_searched_again(self):
        found = self.book.inlined("z")
        self.assertEqual(found, self.book)
        book = Book.made_of(1, x=shown(0, X), y=shown(0, ("or", X, Y)))
        self.assertEqual(book.inlined("x").pairs(), [("x", shown(0, X)), ("y", shown(0, ("or", shown(0, X), Y)))])

    def test_errors_of_inlined(self):
        for name in ("u", "", "X"):
            self.assert_raises(UnknownName(name), self.book.inlined, name)

    def test_too_many_slots_behind_inlining(self):
        # The slot of x stays in its own sentence, and that of y becomes another one.
        book = Book.made_of(1, x=shown(0, X), y=shown(0, X), z=SLOTS[9])
        self.assertEqual(len(book.slots()), 11)
        wanted = [(0, X), (0, shown(0, X))] + [(0, slot) for slot in SLOTS[8::-1]] + [(0, FALSE)]
        self.assertEqual(book.inlined("x").slots(), wanted)
        book = Book.made_of(1, x=shown(0, X), y=shown(0, X), z=SLOTS[10])
        self.assertEqual(len(book.slots()), 12)
        self.assert_raises(TooMany(12), book.inlined, "x")
        self.assertEqual(len(book.inlined("y").slots()), 12)

    def test_another_name_another_order_and_an_inlined_name_leave_the_meanings(self):
        drawing = BookDrawing(4)
        for book in drawing.books(90):
            meanings = {name: book.meaning(("name", name)) for name in book.names()}
            name = drawing.choice(book.names())
            other = book.renamed(name, "other")
            self.assertEqual(other.names(), ["other" if old == name else old for old in book.names()])
            turned = Book(book.levels, drawing.sample(book.pairs(), len(book)))
            for old in book.names():
                self.assertEqual(other.meaning(("name", "other" if old == name else old)), meanings[old])
                self.assertEqual(turned.meaning(("name", old)), meanings[old])
            try:
                inlined = book.inlined(name)
            except VowError:
                continue
            self.assertEqual(inlined.names(), book.names())
            for old in book.names():
                self.assertEqual(inlined.meaning(("name", old)), meanings[old])


if __name__ == "__main__":
    unittest.main()
