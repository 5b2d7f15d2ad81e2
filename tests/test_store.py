import copy
import unittest

from tests.drawn import Drawing
from tests.models import Model, drawn_command, facts, outcome
from vowstair import store as store_file
from vowstair.books import Book
from vowstair.errors import (
    DuplicateName, InvalidCommand, InvalidLevels, InvalidLimit, InvalidName, InvalidSentence, NothingLeft, TooMany,
    Unguarded, UnknownName,
)
from vowstair.meanings import Meaning
from vowstair.sentences import FALSE, TRUE
from vowstair.store import MOST_NAMES, Store

U, V, W, X, Y, Z = [("name", name) for name in "uvwxyz"]
LETTERS = "abcdefghijklmnop"


def shown(level, sentence, times=1):
    for _ in range(times):
        sentence = ("shown", level, sentence)
    return sentence


def slots(many):
    return shown(0, FALSE, many)


def says(names):
    return [("say", name, TRUE) for name in names]


class StoreCase(unittest.TestCase):
    def assert_raises(self, error, call, *values, **named):
        with self.assertRaises(type(error)) as held:
            call(*values, **named)
        self.assertEqual(vars(held.exception), vars(error))

    def assert_refused(self, error, store, commands):
        """A step is refused, and nothing is changed by it."""
        before, book = copy.deepcopy(facts(store)), store.book()
        given = copy.deepcopy(commands)
        self.assert_raises(error, store.do_all, commands)
        self.assertIs(store.is_busy(), False)
        self.assertEqual((facts(store), store.book() == book, commands), (before, True, given))

    def store(self):
        store = Store()
        store.do_all([("say", "x", shown(0, Y)), ("say", "y", ("not", shown(1, X))), ("say", "z", shown(0, Z))])
        return store


class ConstructorTest(StoreCase):
    def test_empty(self):
        for store, levels in ((Store(), 2), (Store(levels=1), 1), (Store(levels=3, limit=4), 3)):
            self.assertEqual((store.book(), store.book().levels, len(store)), (Book.empty(levels), levels, 0))
            self.assertEqual((store.history(), store.kept(), store.solved, store.is_busy()), ((0, 0), [], 0, False))
        self.assertEqual((Store().limit, Store(limit=3).limit, MOST_NAMES), (12, 3, 12))

    def test_levels_before_limit(self):
        for levels in (0, -1, 4, 10**29):
            self.assert_raises(InvalidLevels(), Store, levels=levels)
            self.assert_raises(InvalidLevels(), Store, levels=levels, limit=-1)
        for limit in (-1, 13, 10**29, -(10**29)):
            self.assert_raises(InvalidLimit(limit), Store, limit=limit)
        self.assertEqual([Store(limit=0).limit, Store(limit=12).limit], [0, 12])

    def test_keywords_only(self):
        with self.assertRaises(TypeError):
            Store(2)


class CommandTest(StoreCase):
    def test_say(self):
        store = Store()
        self.assertIsNone(store.do(("say", "y", shown(0, Y))))
        store.do(("say", "x", shown(1, Y)))
        store.do(("say", "z", TRUE))
        self.assertEqual(store.book().pairs(), [("y", shown(0, Y)), ("x", shown(1, Y)), ("z", TRUE)])
        store.do(("say", "x", FALSE))
        self.assertEqual(store.book().pairs(), [("y", shown(0, Y)), ("x", FALSE), ("z", TRUE)])

    def test_unsay(self):
        store = self.store()
        self.assertIsNone(store.do(("unsay", "z")))
        self.assertEqual(store.book().names(), ["x", "y"])
        store.do_all([("unsay", "x"), ("unsay", "y")])
        self.assertEqual((store.book(), len(store)), (Book.empty(2), 0))

    def test_rename(self):
        store = self.store()
        store.do(("rename", "x", "u"))
        self.assertEqual(store.book().pairs(), [("u", shown(0, Y)), ("y", ("not", shown(1, U))), ("z", shown(0, Z))])
        store.do(("rename", "z", "x"))
        self.assertEqual(store.book().pairs()[2], ("x", shown(0, X)))

    def test_inline(self):
        store = self.store()
        store.do(("inline", "y"))
        self.assertEqual(store.book().pairs(), [
            ("x", shown(0, ("not", shown(1, X)))), ("y", ("not", shown(1, X))), ("z", shown(0, Z))])
        # The name's own sentence stays, and so do names in what is inserted.
        store.do(("inline", "z"))
        self.assertEqual(store.book()["z"], shown(0, Z))
        store.do(("say", "u", shown(0, ("and", Z, Z))))
        store.do(("inline", "z"))
        self.assertEqual(store.book()["u"], shown(0, ("and", shown(0, Z), shown(0, Z))))
        store.do_all([("inline", "z"), ("inline", "z")])
        self.assertEqual(store.book()["u"][2][1], shown(0, shown(0, shown(0, Z))))

    def test_errors_of_say(self):
        store = self.store()
        for name in ("", "X", "abcdefg", "true", "shown", "x y", "x1"):
            self.assert_refused(InvalidName(name), store, [("say", name, TRUE)])
            self.assert_refused(InvalidName(name), store, [("say", name, None)])
        for value in (None, 0, True, "x", (), [], ("nothing",), shown(2, TRUE), shown(True, TRUE), ["true"],
                      ("name", "X"),
                      [("true",)], (("true",),)):
            self.assert_refused(InvalidSentence(0), store, [("say", "x", value)])
            self.assert_refused(InvalidSentence(2), store, [("say", "u", TRUE), ("unsay", "u"), ("say", "v", value)])

    def test_errors_of_the_other_commands(self):
        store = self.store()
        for name in ("u", "", "X", "true", "xy"):
            self.assert_refused(UnknownName(name), store, [("unsay", name)])
            self.assert_refused(UnknownName(name), store, [("inline", name)])
            self.assert_refused(UnknownName(name), store, [("rename", name, "v")])
            self.assert_refused(UnknownName(name), store, [("rename", name, "V")])
            self.assert_refused(UnknownName(name), store, [("rename", name, "x")])
        for other in ("", "U", "abcdefg", "then", "x "):
            self.assert_refused(InvalidName(other), store, [("rename", "x", other)])
        for name, other in (("x", "y"), ("x", "x"), ("z", "x")):
            self.assert_refused(DuplicateName(other), store, [("rename", name, other)])

    def test_commands_that_are_none(self):
        store = self.store()
        for command in ((), ("",), ("say",), ("say", "u"), ("say", "u", TRUE, TRUE), ("unsay",), ("unsay", "x", "y"),
                        ("rename", "x"), ("rename", "x", "u", "v"), ("rename",), ("inline",), ("inline", "x", "y"),
                        ("undo",),
                        ("redo", "x"), ("Say", "u", TRUE), ("say ", "u", TRUE), ("forget", "x"), ("x", "y"),
                        ("do", "x", TRUE)):
            with self.subTest(command):
                self.assert_refused(InvalidCommand(0), store, [command])
                self.assert_raises(InvalidCommand(0), store.do, command)
                self.assert_refused(InvalidCommand(1), store, [("say", "u", TRUE), command, ()])
                # It is checked for all commands first.
                self.assert_refused(InvalidCommand(2), store, [("say", "U", None), ("unsay", "w"), command])
                self.assert_refused(InvalidCommand(3), store, says(LETTERS[:3]) + [command] + says(LETTERS))

    def test_the_first_wrong_command_decides(self):
        store = self.store()
        self.assert_refused(InvalidName("X"), store, [("say", "X", TRUE), ("say", "u", None)])
        self.assert_refused(InvalidSentence(0), store, [("say", "u", None), ("say", "X", TRUE)])
        self.assert_refused(UnknownName("u"), store, [("unsay", "u"), ("say", "u", None)])
        self.assert_refused(InvalidSentence(1), store, [("say", "u", TRUE), ("say", "u", None), ("unsay", "v")])
        self.assert_refused(UnknownName("x"), store, [("unsay", "x"), ("unsay", "x")])
        self.assert_refused(UnknownName("x"), store, [("rename", "x", "u"), ("inline", "x")])
        self.assert_refused(DuplicateName("u"), store, [("rename", "x", "u"), ("rename", "y", "u")])
        # What a command raises comes before what the book behind all of them raises.
        self.assert_refused(UnknownName("v"), store, [("say", "x", X), ("unsay", "v")])
        self.assert_refused(InvalidName("V"), store, says(LETTERS) + [("rename", "x", "V")])

    def test_do_has_the_index_0(self):
        store = self.store()
        self.assert_raises(InvalidCommand(0), store.do, ("say",))
        self.assert_raises(InvalidSentence(0), store.do, ("say", "u", None))
        self.assert_raises(UnknownName("u"), store.do, ("unsay", "u"))
        self.assert_raises(Unguarded("u"), store.do, ("say", "u", U))
        self.assert_raises(DuplicateName("y"), store.do, ("rename", "x", "y"))
        self.assertEqual(store.history(), (1, 0))

    def test_commands_that_are_applied_together(self):
        store = Store(levels=1)
        self.assertIsNone(store.do_all([("say", "x", shown(0, Y)), ("say", "y", shown(0, X))]))
        self.assertEqual((store.book(), store.history()), (Book.made_of(1, x=shown(0, Y), y=shown(0, X)), (1, 0)))
        # In between, names may be open, unknown or too many.
        store.do_all([("say", "x", Y), ("inline", "y")])
        self.assertEqual(store.book()["x"], shown(0, X))
        store.do_all([("say", "u", V), ("say", "u", shown(0, V)), ("say", "v", shown(0, W)), ("rename", "x", "w")])
        self.assertEqual(store.book().names(), ["w", "y", "u", "v"])
        self.assertEqual(store.book()["y"], shown(0, W))
        store.do_all(says(LETTERS) + [("unsay", letter) for letter in LETTERS])
        self.assertEqual(store.book().names(), ["w", "y", "u", "v"])
        store.do_all([("say", "a", slots(20)), ("say", "a", TRUE)])
        self.assertEqual(store.book()["a"], TRUE)

    def test_keywords_and_tuples(self):
        store = Store()
        self.assertIsNone(store.do(command=("say", "x", TRUE)))
        self.assertIsNone(store.do_all(commands=(("say", "y", TRUE), ("unsay", "x"))))
        self.assertEqual(store.book().names(), ["y"])


class BookErrorTest(StoreCase):
    def test_errors_of_the_book(self):
        store = self.store()
        self.assert_refused(UnknownName("u"), store, [("say", "x", shown(0, U))])
        self.assert_refused(UnknownName("x"), store, [("unsay", "x")])
        self.assert_refused(Unguarded("u"), store, [("say", "u", X)])
        self.assert_refused(Unguarded("x"), store, [("say", "x", ("and", shown(0, X), Y)), ("say", "y", Y)])
        self.assert_refused(UnknownName("v"), store, [("say", "x", ("and", X, V)), ("say", "y", Y)])
        self.assert_refused(TooMany(12), store, [("say", "x", slots(11))])
        store.do(("say", "x", slots(10)))
        self.assert_refused(Unguarded("z"), store, [("say", "x", slots(13)), ("say", "z", X)])
        self.assert_refused(UnknownName("v"), store, [("say", "x", slots(13)), ("say", "z", shown(0, V))])

    def test_inline_gives_more_slots(self):
        store = Store(levels=1)
        parts = FALSE
        for times in range(5):
            parts = ("or", parts, shown(0, Y, times + 1))
        store.do_all([("say", "x", parts), ("say", "y", ("and", slots(7), shown(0, Y)))])
        self.assertEqual(len(store.book().slots()), 12)
        self.assert_refused(TooMany(12), store, [("inline", "y")])

    def test_too_many_names(self):
        store = Store(levels=1)
        store.do_all(says(LETTERS[:12]))
        self.assertEqual(len(store), 12)
        self.assert_refused(TooMany(12), store, says("m"))
        self.assert_refused(TooMany(12), store, says("m") + [("say", "a", X)])
        self.assert_refused(TooMany(12), store, says("mn") + [("unsay", "a")])
        store.do_all(says("mn") + [("unsay", "a"), ("unsay", "b")])
        self.assertEqual(store.book().names(), list(LETTERS[2:14]))

    def test_the_limit_comes_before_the_errors_of_the_book(self):
        store = Store(limit=2)
        self.assert_refused(TooMany(2), store, says("abc"))
        self.assert_refused(TooMany(2), store, [("say", "a", U), ("say", "b", B_OPEN), ("say", "c", slots(13))])
        self.assert_refused(TooMany(2), store, says(LETTERS))
        self.assert_refused(UnknownName("u"), store, [("say", "a", U), ("say", "b", B_OPEN)])
        store.do_all(says("ab"))
        self.assert_refused(TooMany(2), store, says("c"))
        store.do(("say", "b", FALSE))
        store = Store(limit=0)
        self.assert_refused(TooMany(0), store, says("a"))
        store.do_all(says("a") + [("unsay", "a")])
        self.assertEqual(facts(store), ([], 0, (1, 0), [], 0))


B_OPEN = ("name", "b")


class LimitTest(StoreCase):
    def test_assignment_and_set_limit(self):
        store = self.store()
        store.limit = 5
        self.assertEqual(store.limit, 5)
        self.assertIsNone(store.set_limit(3))
        self.assertEqual(store.limit, 3)
        self.assertIsNone(store.set_limit(value=12))
        self.assertEqual((store.limit, store.history()), (12, (1, 0)))

    def test_limits_that_are_none(self):
        store = self.store()
        store.limit = 4
        for value in (2, 1, 0, -1, 13, 14, 10**29, -(10**29)):
            self.assert_raises(InvalidLimit(value), store.set_limit, value)
            self.assert_raises(InvalidLimit(value), setattr, store, "limit", value)
            self.assertEqual(store.limit, 4)
        store.limit = 3
        self.assert_refused(TooMany(3), store, says("u"))

    def test_undo_and_redo_leave_the_limit(self):
        store = Store()
        store.do_all(says("abcd"))
        store.do_all([("unsay", "a"), ("unsay", "b")])
        store.limit = 2
        store.undo()
        # There are more names now than the limit.
        self.assertEqual((len(store), store.limit), (4, 2))
        self.assert_refused(TooMany(2), store, [])
        self.assert_refused(TooMany(2), store, [("say", "a", FALSE)])
        self.assert_refused(TooMany(2), store, [("unsay", "a")])
        for value in (2, 3):
            self.assert_raises(InvalidLimit(value), store.set_limit, value)
        self.assertEqual((store.limit, store.history()), (2, (1, 1)))
        store.redo()
        self.assertEqual((len(store), store.limit), (2, 2))
        store.undo()
        store.do_all([("unsay", "a"), ("unsay", "c")])
        self.assertEqual((store.book().names(), store.limit, store.history()), (["b", "d"], 2, (2, 0)))
        store.undo()
        store.undo()
        store.set_limit(1)
        store.redo()
        self.assertEqual((len(store), store.limit), (4, 1))
        store.set_limit(4)
        store.do(("say", "d", FALSE))
        self.assertEqual((len(store), store.limit), (4, 4))


class StepTest(StoreCase):
    def test_undo_and_redo(self):
        store = Store(levels=1)
        books = [store.book()]
        for command in (("say", "x", shown(0, X)), ("say", "y", shown(0, X)), ("rename", "x", "u"), ("unsay", "y")):
            store.do(command)
            books.append(store.book())
        for at in (3, 2, 1, 0):
            self.assertEqual(store.history(), (at + 1, 3 - at))
            self.assertIsNone(store.undo())
            self.assertEqual(store.book(), books[at])
        self.assert_raises(NothingLeft(), store.undo)
        self.assertEqual((store.book(), store.history()), (books[0], (0, 4)))
        for at in (1, 2, 3, 4):
            self.assertIsNone(store.redo())
            self.assertEqual((store.book(), store.history()), (books[at], (at, 4 - at)))
        self.assert_raises(NothingLeft(), store.redo)
        self.assertEqual((store.book(), store.history()), (books[4], (4, 0)))

    def test_nothing_left(self):
        store = Store()
        for call in (store.undo, store.redo):
            with self.assertRaises(NothingLeft) as held:
                call()
            self.assertEqual(held.exception.code, "NothingLeft")
            self.assertIsInstance(held.exception, IndexError)

    def test_history_is_a_pair(self):
        self.assertIs(type(Store().history()), tuple)

    def test_a_new_step_forgets_what_could_be_redone(self):
        store = self.store()
        store.do(("unsay", "z"))
        store.undo()
        store.do(("say", "u", TRUE))
        self.assertEqual(store.history(), (2, 0))
        self.assert_raises(NothingLeft(), store.redo)
        store.undo()
        self.assertEqual(store.book(), self.store().book())

    def test_a_refused_step_does_not(self):
        store = self.store()
        store.do(("unsay", "z"))
        store.undo()
        for error, command in ((UnknownName("u"), ("unsay", "u")), (InvalidCommand(0), ("unsay",)),
                               (Unguarded("u"), ("say", "u", X))):
            self.assert_refused(error, store, [command])
        self.assertEqual(store.history(), (1, 1))
        store.redo()
        self.assertEqual(store.book().names(), ["x", "y"])

    def test_no_commands_are_a_step(self):
        store = self.store()
        self.assertIsNone(store.do_all([]))
        self.assertIsNone(store.do_all(()))
        self.assertEqual((store.history(), store.book()), ((3, 0), self.store().book()))
        store.undo()
        self.assertEqual((store.history(), store.book()), ((2, 1), self.store().book()))
        store.do_all([])
        self.assertEqual(store.history(), (3, 0))

    def test_many_commands_are_one_step(self):
        store = self.store()
        self.assertEqual(store.history(), (1, 0))
        store.undo()
        self.assertEqual((len(store), store.history()), (0, (0, 1)))

    def test_is_busy(self):
        store, seen = self.store(), []

        class Watched(list):
            def __iter__(self):
                seen.append(store.is_busy())
                return list.__iter__(self)

        store.do_all(Watched([("say", "u", TRUE)]))
        with self.assertRaises(UnknownName):
            store.do_all(Watched([("unsay", "v")]))
        self.assertEqual(set(seen), {True})
        self.assertIs(store.is_busy(), False)
        for call in (store.undo, store.redo, store.book, store.kept, store.twin):
            call()
            self.assertIs(store.is_busy(), False)
        self.assertIs(store.twin().is_busy(), False)


class QuestionTest(StoreCase):
    def test_ask_returns_what_the_book_returns(self):
        store = self.store()
        for sentence in (X, Y, TRUE, shown(0, X), ("and", X, shown(1, Y)), X):
            found = store.ask(sentence)
            self.assertIs(type(found), Meaning)
            self.assertEqual(found, store.book().meaning(sentence))
        self.assertEqual(store.ask(sentence=X), store.book().meaning(X))

    def test_ask_raises_what_the_book_raises(self):
        store = self.store()
        for value in (None, (), 0, "x", shown(2, X), shown(True, X), ("name", "X"), U, ("and", X, V), slots(11),
                      ["true"]):
            before = facts(store)
            wanted = outcome(store.book().meaning, value)
            self.assertEqual(outcome(store.ask, value), wanted)
            self.assertEqual((wanted[0] in (InvalidSentence, UnknownName, TooMany), facts(store)), (True, before))
        self.assert_raises(TooMany(12), store.ask, slots(10))
        self.assertIsInstance(store.ask(slots(9)), Meaning)

    def test_a_value_that_is_equal_to_a_kept_sentence(self):
        store = Store(levels=2)
        store.do(("say", "x", shown(1, X)))
        store.ask(shown(1, X))
        store.ask(shown(0, FALSE))
        self.assertTrue(shown(True, X) == shown(1, X) and shown(False, FALSE) == shown(0, FALSE))
        for value in (shown(True, X), shown(False, FALSE)):
            self.assert_raises(InvalidSentence(0), store.ask, value)
            self.assert_raises(InvalidSentence(0), store.ask, ("not", value))
        self.assertEqual((store.kept(), store.solved), ([shown(1, X), shown(0, FALSE)], 2))

    def test_what_is_kept_is_not_computed_again(self):
        store, computed = self.store(), []
        meaning_of_book = Book.meaning

        def counted(book, sentence):
            computed.append(sentence)
            return meaning_of_book(book, sentence)

        Book.meaning = counted
        try:
            for _ in range(3):
                for sentence in (X, ("not", X), Y):
                    store.ask(copy.deepcopy(sentence))
            twin = store.twin()
            twin.ask(X)
        finally:
            Book.meaning = meaning_of_book
        self.assertEqual(computed, [X, ("not", X), Y])
        self.assertEqual((store.solved, twin.solved), (3, 3))

    def test_kept_in_the_order_of_the_first_questions(self):
        store = self.store()
        for sentence in (Y, X, ("or", X, Y), X, Y, Z, ("or", X, Y)):
            store.ask(sentence)
        self.assertEqual((store.kept(), store.solved), ([Y, X, ("or", X, Y), Z], 4))
        self.assertIs(type(store.kept()), list)

    def test_solved_cannot_be_assigned(self):
        with self.assertRaises(AttributeError):
            self.store().solved = 3

    def test_kept_as_long_as_the_book_is_equal(self):
        store = self.store()
        store.ask(X)
        store.ask(Y)
        for deed in (lambda: store.do_all([]), store.undo, store.redo, lambda: store.do(("say", "z", shown(0, Z))),
                     lambda: store.do_all([("rename", "x", "u"), ("rename", "u", "x")]), lambda: store.set_limit(5),
                     lambda: store.do_all([("unsay", "z"), ("say", "z", shown(0, Z))]), store.undo, store.undo,
                     store.redo):
            deed()
            self.assertEqual((store.kept(), store.solved), ([X, Y], 2))
        with self.assertRaises(UnknownName):
            store.do(("unsay", "x"))
        self.assertEqual((store.kept(), store.solved), ([X, Y], 2))

    def test_forgotten_where_the_book_becomes_unequal(self):
        deeds = [
            [("say", "u", TRUE)], [("say", "z", TRUE)], [("unsay", "z")], [("rename", "x", "u")], [("inline", "y")],
            # Another order of the names is another book.
            [("say", "w", shown(0, Z)), ("unsay", "z"), ("rename", "w", "z"), ("say", "v", TRUE)],
            [("unsay", "x"), ("say", "x", shown(0, Y))],
        ]
        for commands in deeds:
            store = self.store()
            store.ask(X)
            store.do_all(commands)
            self.assertEqual((store.kept(), store.solved), ([], 1), commands)
            store.ask(TRUE)
            self.assertEqual((store.kept(), store.solved), ([TRUE], 2))
            store.undo()
            # What was kept before the step is not there again.
            self.assertEqual((store.kept(), store.solved), ([], 2))
            store.ask(X)
            store.redo()
            self.assertEqual((store.kept(), store.solved), ([], 3))

    def test_answers_behind_a_step(self):
        store = Store(levels=1)
        store.do(("say", "x", TRUE))
        self.assertTrue(store.ask(X).everywhere())
        store.do(("say", "x", FALSE))
        self.assertFalse(store.ask(X))
        store.undo()
        self.assertTrue(store.ask(X).everywhere())
        store.redo()
        self.assertFalse(store.ask(X))
        self.assertEqual(store.solved, 4)


class TwinTest(StoreCase):
    def full(self):
        store = self.store()
        store.set_limit(7)
        store.do(("say", "u", TRUE))
        store.do(("unsay", "u"))
        store.undo()
        store.ask(X)
        store.ask(Y)
        return store

    def test_a_twin_is_alike(self):
        store = self.full()
        twin = store.twin()
        self.assertEqual((type(twin), facts(twin)), (Store, facts(store)))
        self.assertIsNot(twin, store)
        self.assertEqual((twin == store, twin.book() == store.book(), twin.book().levels), (True, True, 2))
        for turn in ("undo", "undo", "redo", "redo", "redo"):
            getattr(store, turn)()
            getattr(twin, turn)()
            self.assertEqual(facts(twin), facts(store))

    def test_each_goes_its_own_way(self):
        def assign(store):
            store.limit = 9

        deeds = [
            lambda store: store.do(("say", "v", TRUE)), lambda store: store.do_all([]), lambda store: store.undo(),
            lambda store: store.redo(), lambda store: store.set_limit(4), assign, lambda store: store.ask(Z),
            lambda store: store.do_all([("unsay", "z"), ("say", "w", TRUE)]), lambda store: store.kept().clear(),
            lambda store: outcome(store.do, ("unsay", "nobody")),
        ]
        for deed in deeds:
            for changed, other in (self.pair(), self.pair()[::-1]):
                before = copy.deepcopy(facts(other))
                outcome(deed, changed)
                outcome(deed, changed)
                self.assertEqual(facts(other), before)
                # And all that the other one can do is as it would have been.
                alone = self.full()
                for again in deeds:
                    self.assertEqual(outcome(again, other), outcome(again, alone))
                    self.assertEqual(facts(other), facts(alone))

    def pair(self):
        store = self.full()
        return (store, store.twin())

    def test_twins_of_each_number_of_levels_and_of_full_stores(self):
        for levels in (1, 2, 3):
            store = Store(levels=levels, limit=0)
            self.assertEqual((facts(store.twin()), store.twin().book().levels), (facts(store), levels))
        store = Store()
        store.do_all(says(LETTERS[:12]))
        store.do(("unsay", "a"))
        store.set_limit(11)
        store.undo()
        self.assertEqual((len(store.twin()), store.twin().limit), (12, 11))


class ValueTest(StoreCase):
    def test_equality_by_the_books_alone(self):
        one, other = self.store(), Store(limit=5)
        self.assertFalse(one == other)
        other.do(("say", "x", TRUE))
        other.do_all([("say", "y", ("not", shown(1, X))), ("say", "x", shown(0, Y)), ("say", "z", shown(0, Z))])
        other.ask(X)
        self.assertTrue(one == other)
        self.assertFalse(one != other)
        other.undo()
        self.assertTrue(one != other)
        self.assertTrue(Store() == Store(limit=3))
        self.assertFalse(Store(levels=1) == Store(levels=2))
        reverse = Store()
        reverse.do_all([("say", "z", shown(0, Z)), ("say", "y", ("not", shown(1, X))), ("say", "x", shown(0, Y))])
        self.assertFalse(one == reverse)

    def test_a_store_equals_nothing_else(self):
        store = self.store()
        for value in (None, True, 0, 3, "", "Store(2 levels, 3 names, 1 steps)", [], store.book(), store.book().pairs(),
                      {}, Store):
            self.assertFalse(store == value)
            self.assertFalse(value == store)
            self.assertTrue(store != value)
        self.assertFalse(Store() == Book.empty(2))

    def test_len_and_repr(self):
        store = self.store()
        self.assertEqual((len(store), repr(store)), (3, "Store(2 levels, 3 names, 1 steps)"))
        store.do_all(says("uv"))
        store.do(("unsay", "z"))
        self.assertEqual((len(store), repr(store)), (4, "Store(2 levels, 4 names, 3 steps)"))
        store.undo()
        self.assertEqual(repr(store), "Store(2 levels, 5 names, 2 steps)")
        self.assertEqual((len(Store()), repr(Store(levels=1))), (0, "Store(1 levels, 0 names, 0 steps)"))
        one = Store(levels=3)
        one.do(("say", "x", TRUE))
        self.assertEqual(repr(one), "Store(3 levels, 1 names, 1 steps)")

    def test_the_passed_list_is_not_kept(self):
        store, commands = Store(), [("say", "x", shown(0, X))]
        store.do_all(commands)
        commands[0] = ("say", "x", FALSE)
        commands.append(("say", "y", TRUE))
        self.assertEqual(store.book().pairs(), [("x", shown(0, X))])
        store.undo()
        store.redo()
        self.assertEqual(store.book().pairs(), [("x", shown(0, X))])

    def test_returned_lists_are_new(self):
        store = self.store()
        store.ask(X)
        store.kept().append(Y)
        store.book().pairs().clear()
        store.book().names().clear()
        self.assertEqual((store.kept(), len(store), store.solved), ([X], 3, 1))
        store.ask(Y)
        self.assertEqual((store.kept(), store.solved), ([X, Y], 2))

    def test_the_class_stands_in_its_file(self):
        for name in ("do", "do_all", "undo", "redo", "history", "book", "ask", "kept", "solved", "twin", "limit",
                     "set_limit"):
            self.assertIn(name, vars(store_file.Store))


class DrawnTest(StoreCase):
    def test_drawn_deeds_against_a_model(self):
        """Each deed has the outcome of the model, and both are the same behind it."""
        drawing = Drawing(71)
        refused = 0
        for at in range(60):
            levels, limit = 1 + at % 3, drawing.choice([3, 5, 12])
            store, model = Store(levels=levels, limit=limit), Model(levels, limit)
            for _ in range(40):
                chance = drawing.random()
                if chance < 0.55:
                    commands = [drawn_command(drawing, levels, list("abcde"))
                                for _ in range(drawing.choice([0, 1, 1, 2, 4]))]
                    wanted, found = outcome(model.do_all, commands), outcome(store.do_all, commands)
                    refused += wanted is not None
                elif chance < 0.7:
                    wanted, found = outcome(model.turn, -1), outcome(store.undo)
                elif chance < 0.8:
                    wanted, found = outcome(model.turn, 1), outcome(store.redo)
                else:
                    sentence = drawing.sentence(levels, list("abc"), drawing.randint(1, 3), free=True)
                    wanted, found = outcome(model.ask, sentence), outcome(store.ask, sentence)
                self.assertEqual(found, wanted)
                self.assertEqual((facts(store), store.is_busy()), (model.facts(), False))
        self.assertGreater(refused, 200)

    def test_meanings_behind_drawn_steps(self):
        drawing = Drawing(72)
        for at in range(30):
            levels = 1 + at % 3
            store = Store(levels=levels)
            for _ in range(25):
                outcome(drawing.choice([store.undo, store.redo, lambda: None]))
                commands = [drawn_command(drawing, levels, list("abcd")) for _ in range(drawing.choice([1, 1, 3]))]
                outcome(store.do_all, commands)
                book = Book(levels, store.book().pairs())
                for name in store.book().names():
                    self.assertEqual(store.ask(("name", name)), book.meaning(("name", name)))


if __name__ == "__main__":
    unittest.main()
