"""What is promised over the whole program."""

import ast
import copy
import doctest
import re
import unittest
from pathlib import Path

from tests.models import facts, outcome
from tests.samples import OMEGA, ONE, TWO, ZERO
from vowstair.books import Book
from vowstair.derivations import first_gap
from vowstair.desk import Desk
from vowstair.doers import Field
from vowstair.evaluation import meaning_of
from vowstair.ladders import ladder_holds, ladder_of
from vowstair.meanings import Meaning, both, either
from vowstair.notation import format_sentence, parse_sentence
from vowstair.pages import page, read_page
from vowstair.plain import plain
from vowstair.sentences import FALSE, TRUE, names_in, open_names, replaced, size_of, slots_in
from vowstair.store import Store
from vowstair.verdicts import Alike, Parted, Verdict, compare

HERE = Path(__file__).resolve().parent
G, X, Y = [("name", name) for name in "gxy"]


def shown(level, sentence):
    return ("shown", level, sentence)


def a_book(levels=2):
    return Book(levels, [("x", shown(0, ("or", Y, shown(levels - 1, X)))), ("y", ("not", shown(levels - 1, Y)))])


def a_store():
    store = Store(levels=2, limit=9)
    store.do_all([("say", "x", shown(0, X)), ("say", "y", ("not", shown(1, Y)))])
    store.do(("say", "z", TRUE))
    store.undo()
    store.ask(X)
    return store


class ExampleTest(unittest.TestCase):
    def test_every_example_of_the_document(self):
        path = HERE / "examples.txt"
        text = path.read_text(encoding="ascii")
        found = doctest.DocTestParser().get_doctest(text, {}, "examples.txt", str(path), 0)
        result = doctest.DocTestRunner(verbose=False).run(found)
        self.assertEqual((result.failed, result.attempted), (0, text.count(">>>")))
        self.assertEqual(result.attempted, 19)

    def test_they_are_those_of_the_document(self):
        path = HERE.parent.parent / "shared" / "DOC.md"
        if not path.exists():
            self.skipTest("the document is not beside this folder")
        blocks = re.findall("```\n(>>>.*?)```", path.read_text(encoding="utf-8"), re.DOTALL)
        kept = (HERE / "examples.txt").read_text(encoding="ascii")
        self.assertGreater(len(blocks), 0)
        for block in blocks:
            self.assertIn(block, kept)


class ListTest(unittest.TestCase):
    def assert_new(self, call):
        """What a call returns may be changed, and the call returns the same again."""
        found = call()
        wanted = copy.deepcopy(found)
        self.assertIs(type(found), list)
        self.spoil(found)
        self.assertEqual(call(), wanted)
        self.assertIsNot(call(), call())

    def spoil(self, found):
        for item in found:
            if isinstance(item, (list, tuple)):
                for part in item:
                    if isinstance(part, list):
                        self.spoil(part)
        found.reverse()
        found.append(None)
        del found[0]

    def test_lists_that_are_returned(self):
        book, store, sentence = a_book(3), a_store(), ("and", X, shown(0, ("or", Y, shown(1, X))))
        field = Field(2, [("a", shown(0, ("name", "you"))), ("b", FALSE)])
        for call in (
            lambda: names_in(sentence), lambda: slots_in(sentence), lambda: open_names(sentence), book.names,
            book.pairs,
            book.slots, lambda: ladder_of(book), field.doers, store.kept, field.book().pairs, store.book().names,
            store.book().pairs, store.book().slots, store.twin().kept,
        ):
            self.assert_new(call)
        self.assertTrue(ladder_holds(book, ladder_of(book)))

    def test_lists_that_are_passed(self):
        """They are not changed, they are not kept, and tuples stand for them."""
        book = a_book()
        meanings = [("x", Meaning.always(2)), ("y", Meaning.never(2))]
        rules = [("a", shown(0, ("name", "you"))), ("b", FALSE)]
        steps = [(TRUE, "truth", ()), (shown(0, TRUE), "box", (0,)), (X, "truth", ())]
        commands = [("say", "z", shown(0, X)), ("rename", "z", "u")]

        def done(commands):
            store = a_store()
            store.do_all(commands)
            return store

        for passed, call in (
            (a_book().pairs(), lambda pairs: Book(2, pairs)), (meanings, lambda names: meaning_of(2, X, names=names)),
            (rules, lambda given: Field(2, given)), (steps, lambda given: first_gap(book, given)), (commands, done),
        ):
            kept = copy.deepcopy(passed)
            one, other = call(passed), call(tuple(passed))
            self.assertEqual(passed, kept)
            passed.clear()
            seen = [found.chart() if isinstance(found, Field) else found for found in (one, other, call(kept))]
            self.assertEqual((seen[0], seen[1]), (seen[2], seen[2]))

    def test_dicts_that_are_passed(self):
        names = {"x": TRUE, "y": shown(0, X)}
        kept = copy.deepcopy(names)
        self.assertEqual(replaced(("and", X, Y), names), ("and", TRUE, shown(0, X)))
        self.assertEqual(names, kept)
        made = Book.made_of(1, **names)
        names.clear()
        self.assertEqual(made, Book.made_of(1, **kept))

    def test_ladders_that_are_passed(self):
        book = a_book(3)
        ladder = ladder_of(book)
        kept = copy.deepcopy(ladder)
        self.assertTrue(ladder_holds(book, ladder))
        self.assertEqual(ladder, kept)


def told(thing):
    """All that can be asked of an object without changing it."""
    if isinstance(thing, Meaning):
        return [thing.levels, thing.stair(), thing.least(), thing.everywhere(), thing.in_the_end(), bool(thing),
                repr(thing)]
    if isinstance(thing, Book):
        return [thing.levels, thing.names(), thing.pairs(), thing.slots(), len(thing), repr(thing),
                told(thing.meaning(X)),
                thing["x"], "y" in thing]
    if isinstance(thing, Verdict):
        return [thing.row, getattr(thing, "first", None), bool(thing), thing.told()]
    if isinstance(thing, Field):
        return [thing.doers(), thing.book().pairs(), list(thing.walk()), thing.chart(), thing.acts("a", "b")]
    if isinstance(thing, Store):
        return [facts(thing), told(thing.book()), len(thing), repr(thing), thing.is_busy(), page(thing)]
    return told(thing.store())


def deeds():
    """For each class, calls that use one of its objects."""
    def assign(store):
        store.limit = 5

    stores = [
        lambda store: store.do(("say", "z", shown(0, X))),
        lambda store: store.do_all([("unsay", "y"), ("inline", "x")]),
        lambda store: store.undo(), lambda store: store.redo(), lambda store: store.undo(),
        lambda store: store.set_limit(3),
        assign, lambda store: store.ask(Y), lambda store: store.do(("unsay", "nobody")),
        lambda store: store.kept().clear(),
        lambda store: store.twin().undo(), lambda store: store.do_all([]), lambda store: store.book().pairs().clear(),
        lambda store: read_page(page(store)).do(("unsay", "x")), lambda store: Desk(store=store).say("rename x u"),
    ]
    return {
        "meaning": [
            lambda one: one + one, lambda one: one * Meaning.beyond(2, 0, ONE), lambda one: -one,
            lambda one: one.shown(0),
            lambda one: one.shown(1), lambda one: one.lies_in(Meaning.always(2)),
            lambda one: one.missing_below(0, (OMEGA, ONE)),
            lambda one: (OMEGA, TWO) in one, lambda one: either(one, -one), lambda one: both(one, one),
            lambda one: meaning_of(2, shown(0, X), names=[("x", one)]), lambda one: one.shown(7),
            lambda one: one == -one,
        ],
        "book": [
            lambda book: book.extended("z", TRUE), lambda book: book.without("y"), lambda book: book.renamed("x", "u"),
            lambda book: book.inlined("y"), lambda book: book.meaning(("and", X, Y)),
            lambda book: book.stands(X, (ZERO, ZERO)),
            lambda book: book["nobody"], lambda book: ladder_of(book).clear(), lambda book: plain(book, X),
            lambda book: compare(book, X, Y), lambda book: first_gap(book, [(X, "truth", ())]), lambda book: list(book),
        ],
        "verdict": [lambda verdict: verdict.told(), lambda verdict: not verdict],
        "field": [
            lambda field: field.doers().clear(), lambda field: list(field.walk()), lambda field: field.acts("a", "u"),
            lambda field: field.book().without("aado"), lambda field: field.chart(),
        ],
        "store": stores,
        "desk": [lambda desk, deed=deed: deed(desk.store()) for deed in stores]
        + [lambda desk, line=line: desk.say(line) for line in ("undo", "say x true", "valid x", "unsay x", "hello",
                                                               "names")],
    }


def things():
    """Objects of each class: some alike, and some that were made of one another."""
    book, store, desk = a_book(), a_store(), Desk(store=a_store())
    rules = [("a", shown(0, ("name", "you"))), ("b", shown(1, ("name", "a")))]
    meaning = Meaning.beyond(2, 1, ZERO)
    return {
        "meaning": [meaning, Meaning.beyond(2, 1, ZERO), Meaning(2, meaning.stair()), meaning + meaning,
                    Meaning.always(2)],
        "book": [book, a_book(), Book(2, book.pairs()), book.extended("z", TRUE), book.inlined("y"), store.book()],
        "verdict": [compare(book, X, Y), compare(book, X, X), Verdict(2, None), Alike(2),
                    Parted(2, (OMEGA, ONE), True)],
        "field": [Field(2, rules), Field(2, rules), Field(2, rules[::-1])],
        "store": [store, a_store(), store.twin(), store.twin().twin(), read_page(page(store)), a_store().twin()],
        "desk": [desk, Desk(store=a_store()), Desk(store=desk.store().twin()), Desk(store=read_page(page(store)))],
    }


class ObjectTest(unittest.TestCase):
    def test_using_one_leaves_every_other_one(self):
        for kind, uses in deeds().items():
            for at in range(len(things()[kind])):
                found = things()
                used = found[kind].pop(at)
                others = [thing for some in found.values() for thing in some]
                before = [told(thing) for thing in others]
                for use in uses:
                    try:
                        use(used)
                    except (ValueError, LookupError, TypeError):
                        pass
                self.assertEqual([told(thing) for thing in others], before)
                if kind not in ("store", "desk"):
                    self.assertEqual(told(used), told(things()[kind][at]))

    def test_equal_calls_return_equal_results(self):
        for kind, some in things().items():
            again = things()[kind]
            for one, other in zip(some, again):
                self.assertEqual(told(one), told(other))
                self.assertEqual(told(one), told(one))

    def test_returned_sentences_can_be_passed(self):
        book = Book.made_of(3, x=shown(0, ("or", shown(1, X), shown(2, FALSE))))
        found = plain(book, ("then", X, shown(1, X)))
        self.assertTrue(size_of(found) > 0 and parse_sentence(3, format_sentence(found)) == found)
        self.assertEqual(compare(Book.empty(3), found, found).told(), "3 levels: alike")
        self.assertIsNone(first_gap(book, [(("then", found, found), "truth", ())]))
        store = Store(levels=3)
        store.do(("say", "y", found))
        self.assertEqual(read_page(page(store)).book()["y"], found)
        self.assertEqual(store.ask(Y), book.meaning(("then", X, shown(1, X))))

    def test_errors_change_nothing(self):
        store, desk = a_store(), Desk(store=a_store())
        before = (told(store), told(desk))
        for command in ((), ("say", "X", TRUE), ("say", "x", None), ("unsay", "u"), ("rename", "x", "y"),
                        ("say", "x", X),
                        ("say", "x", shown(0, G))):
            self.assertIs(type(outcome(store.do, command)), tuple)
            self.assertIs(type(outcome(store.do_all, [("unsay", "x"), ("say", "x", TRUE), command])), tuple)
        for call in (lambda: store.ask(G), lambda: store.set_limit(1), lambda: store.ask(None)):
            self.assertIs(type(outcome(call)), tuple)
        for line in ("hello", "say X true", "say x x", "unsay u", "rename x y", "inline u", "valid u", "show u",
                     "say x shown 0 u"):
            desk.say(line)
        self.assertEqual((told(store), told(desk)), before)


class FileTest(unittest.TestCase):
    def test_no_clock_no_randomness_no_files(self):
        """The package imports from itself alone, and calls nothing that reads or writes."""
        paths = sorted((HERE.parent / "vowstair").glob("*.py"))
        self.assertGreater(len(paths), 18)
        for path in paths:
            for node in ast.walk(ast.parse(path.read_text(encoding="ascii"))):
                self.assertNotIsInstance(node, ast.Import)
                if isinstance(node, ast.ImportFrom):
                    self.assertTrue(node.module.startswith("vowstair."), path.name)
                if isinstance(node, ast.Call) and isinstance(node.func, ast.Name):
                    self.assertNotIn(node.func.id, ["open", "print", "input", "eval", "exec", "id", "hash"], path.name)


if __name__ == "__main__":
    unittest.main()
