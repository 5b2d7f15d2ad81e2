import unittest

from tests.drawn import Drawing
from tests.models import facts
from tests.texts import sentence_told
from vowstair import desk as desk_file
from vowstair import errors
from vowstair.books import Book
from vowstair.desk import Desk
from vowstair.errors import Missing, NothingLeft, TooLong, TooMany, VowError
from vowstair.notation import format_row, format_sentence
from vowstair.pages import page, read_page
from vowstair.plain import plain
from vowstair.sentences import FALSE
from vowstair.store import Store
from vowstair.verdicts import compare

G, X = [("name", name) for name in "gx"]
FORMS = {
    "say": "NS", "unsay": "N", "rename": "NN", "inline": "N", "undo": "", "redo": "", "names": "", "show": "N",
    "valid": "S",
    "end": "S", "least": "S", "plain": "S", "compare": "S;S",
}


def shown(level, sentence, times=1):
    for _ in range(times):
        sentence = ("shown", level, sentence)
    return sentence


class DeskCase(unittest.TestCase):
    def desk(self):
        store = Store()
        store.do_all([("say", "x", shown(0, X)), ("say", "g", ("not", shown(0, G)))])
        return Desk(store=store)

    def assert_answers(self, desk, answers):
        for line, answer in answers:
            with self.subTest(line):
                self.assertEqual(desk.say(line), answer)

    def assert_unchanged(self, desk, line, answer):
        """A line has this answer and leaves the store as it is."""
        before = facts(desk.store())
        self.assertEqual((desk.say(line), facts(desk.store()), desk.store().is_busy()), (answer, before, False), line)


class StoreTest(DeskCase):
    def test_a_new_store(self):
        desk = Desk()
        self.assertEqual((desk.store(), facts(desk.store())), (Store(), ([], 12, (0, 0), [], 0)))
        self.assertEqual(Desk(store=None).store(), Store())
        self.assertIs(desk.store(), desk.store())
        other = Desk()
        self.assertIsNot(desk.store(), other.store())
        desk.say("say x true")
        self.assertEqual((len(desk.store()), len(other.store())), (1, 0))

    def test_the_very_store(self):
        # A store without names is not true, but it is used.
        store = Store(levels=3, limit=1)
        desk = Desk(store=store)
        self.assertIs(desk.store(), store)
        self.assertEqual(desk.say("say x shown 2 x"), "ok")
        self.assertEqual(store.book(), Book.made_of(3, x=shown(2, X)))
        store.do(("say", "x", FALSE))
        self.assertEqual((desk.say("show x"), desk.say("say y true")), ("false", "error TooMany"))
        self.assertIs(desk.store(), store)

    def test_two_desks_at_one_store(self):
        store = Store()
        one, other = Desk(store=store), Desk(store=store)
        one.say("say x true")
        self.assertEqual((other.say("names"), other.say("undo"), one.say("names")), ("x", "ok", "none"))

    def test_keywords(self):
        with self.assertRaises(TypeError):
            Desk(Store())
        self.assertEqual(Desk().say(line="names"), "none")


class CommandTest(DeskCase):
    def test_commands(self):
        desk = Desk()
        self.assert_answers(desk, [
            ("say x shown 0 x", "ok"), ("say g not shown 1 x", "ok"), ("names", "x g"), ("show g", "not shown 1 x"),
            ("rename x abcdef", "ok"), ("names", "abcdef g"), ("show g", "not shown 1 abcdef"), ("inline abcdef", "ok"),
            ("show g", "not shown 1 shown 0 abcdef"), ("show abcdef", "shown 0 abcdef"), ("unsay g", "ok"),
            ("names", "abcdef"),
            ("undo", "ok"), ("undo", "ok"), ("show g", "not shown 1 abcdef"), ("redo", "ok"),
            ("show g", "not shown 1 shown 0 abcdef"), ("say g (true or not false)", "ok"),
            ("show g", "(true or not false)"),
            ("redo", "error NothingLeft"), ("unsay abcdef", "ok"), ("names", "g"), ("unsay g", "ok"), ("names", "none"),
        ])
        self.assertEqual(desk.store().history(), (7, 0))

    def test_errors_of_commands(self):
        desk = self.desk()
        store = desk.store()
        store.set_limit(3)
        for line, answer in [
            ("say X true", "InvalidName"), ("say abcdefg true", "InvalidName"), ("say true true", "InvalidName"),
            ("say = true", "InvalidName"), ("say ( true", "InvalidName"), ("say u u", "Unguarded"),
            ("say u shown 0 v", "UnknownName"),
            ("say u " + "shown 0 " * 11 + "true", "TooMany"), ("unsay u", "UnknownName"), ("unsay X", "UnknownName"),
            ("unsay ;", "UnknownName"), ("rename u v", "UnknownName"), ("rename u X", "UnknownName"),
            ("rename x X", "InvalidName"),
            ("rename x then", "InvalidName"), ("rename x )", "InvalidName"), ("rename x g", "DuplicateName"),
            ("rename x x", "DuplicateName"), ("inline u", "UnknownName"), ("inline 7", "UnknownName"),
            ("redo", "NothingLeft"),
        ]:
            self.assert_unchanged(desk, line, "error " + answer)
        desk.say("say y (shown 0 x and shown 0 g)")
        self.assert_unchanged(desk, "say u true", "error TooMany")
        self.assert_unchanged(desk, "unsay x", "error UnknownName")
        for _ in range(2):
            self.assertEqual(desk.say("undo"), "ok")
        self.assert_unchanged(desk, "undo", "error NothingLeft")

    def test_a_command_is_a_step(self):
        desk = self.desk()
        desk.say("say y true")
        self.assertEqual(desk.store().history(), (2, 0))
        desk.say("undo")
        self.assertEqual(desk.store().history(), (1, 1))
        desk.say("unsay nobody")
        self.assertEqual(desk.store().history(), (1, 1))
        desk.say("redo")
        self.assertEqual((desk.store().history(), desk.store().book().names()), ((2, 0), ["x", "g", "y"]))


class QuestionTest(DeskCase):
    def test_questions(self):
        self.assert_answers(self.desk(), [
            ("names", "x g"), ("show x", "shown 0 x"), ("show g", "not shown 0 g"), ("valid x", "yes"),
            ("valid g", "no"), ("valid (x or g)", "yes"), ("valid not shown 1 false", "no"), ("end x", "yes"),
            ("end g", "yes"),
            ("end not g", "no"),
            ("end shown 0 shown 0 false", "no"), ("least x", "0,0"), ("least g", "1,0"), ("least not g", "0,0"),
            ("least false", "none"), ("least not shown 1 false", "w,1"), ("least not shown 0 shown 1 false", "w+1,0"),
            ("plain x", "true"), ("plain g", "not shown 0 false"), ("plain true", "true"),
            ("compare x ; true", "2 levels: alike"), ("compare x ; g", "2 levels: first at 0,0"),
            ("compare g ; x", "2 levels: second at 0,0"),
            ("compare shown 1 false ; (true and true)", "2 levels: second at w,1"),
            ("compare not shown 0 false ; g", "2 levels: alike"),
        ])

    def test_levels(self):
        for levels in (1, 2, 3):
            desk = Desk(store=Store(levels=levels))
            self.assertEqual(desk.say("compare true ; false"), f"{levels} levels: first at " + ",".join("0" * levels))
            self.assertEqual(desk.say("least true"), ",".join("0" * levels))
            for level in range(4):
                known = level < levels
                for line in (f"valid shown {level} true", f"plain shown {level} true", f"say x shown {level} x",
                             f"compare true ; shown {level} true"):
                    self.assertEqual(desk.say(line) == "invalid", not known)

    def test_errors_of_questions(self):
        desk = self.desk()
        many = "shown 0 " * 11 + "true"
        for word in ("valid", "end", "least", "plain"):
            self.assert_unchanged(desk, f"{word} u", "error UnknownName")
            self.assert_unchanged(desk, f"{word} (x and shown 1 v)", "error UnknownName")
            self.assert_unchanged(desk, f"{word} {many}", "error TooMany")
            self.assert_unchanged(desk, f"{word} not {many[:-4]}u", "error UnknownName")
        for line, answer in [
            ("compare u ; x", "UnknownName"), ("compare x ; u", "UnknownName"), ("compare " + many + " ; x", "TooMany"),
            ("compare x ; " + many, "TooMany"), ("compare " + many + " ; u", "UnknownName"), ("show u", "UnknownName"),
            ("show X", "UnknownName"), ("show (", "UnknownName"), ("show shown", "UnknownName"),
        ]:
            self.assert_unchanged(desk, line, "error " + answer)

    def test_drawn_plain_sentences(self):
        drawing, desk = Drawing(91), Desk(store=Store(levels=3))
        for _ in range(60):
            sentence = drawing.sentence(3, [], 24)
            try:
                wanted = format_sentence(plain(desk.store().book(), sentence))
            except TooMany:
                wanted = "error TooMany"
            self.assertEqual(desk.say("plain " + format_sentence(sentence)), wanted)

    def test_too_long(self):
        # No sentence of so few slots is known whose plain one is too long.
        def refused(book, sentence):
            raise TooLong(20000)

        desk_file.plain = refused
        try:
            self.assert_unchanged(self.desk(), "plain x", "error TooLong")
        finally:
            desk_file.plain = plain

    def test_what_is_asked_of_the_store(self):
        desk = self.desk()
        store = desk.store()
        asked = []
        for line in ("valid x", "valid x", "end g", "least not g", "least x", "end (x and g)"):
            desk.say(line)
            asked += [told for told in [sentence_told(2, line.split(" ", 1)[1])] if told not in asked]
            self.assertEqual((store.kept(), store.solved), (asked, len(asked)))
        for line in ("plain x", "plain (g or g)", "compare x ; shown 1 g", "show x", "names", "valid u",
                     "least nothing", "end"):
            self.assert_unchanged(desk, line, desk.say(line))
        self.assertEqual((store.kept(), store.solved), (asked, 4))
        desk.say("say y true")
        self.assertEqual((store.kept(), store.solved), ([], 4))
        desk.say("end g")
        self.assertEqual((store.kept(), store.solved), ([G], 5))

    def test_questions_change_nothing_else(self):
        desk = self.desk()
        text, history = page(desk.store()), desk.store().history()
        for line in ("names", "show x", "valid x", "end x", "least g", "plain g", "compare x ; g"):
            desk.say(line)
        self.assertEqual((page(desk.store()), desk.store().history()), (text, history))

    def test_drawn_questions(self):
        drawing = Drawing(92)
        store = read_page("levels 3\nx = shown 0 (x then shown 1 y)\ny = not shown 2 (y or x)\n")
        desk, book = Desk(store=store), store.book()
        for _ in range(120):
            one = drawing.sentence(3, ["x", "y"], drawing.randint(1, 5), free=True)
            other = drawing.sentence(3, ["x", "y"], drawing.randint(1, 5), free=True)
            text, meaning = format_sentence(one), book.meaning(one)
            self.assert_answers(desk, [
                (f"valid {text}", "yes" if meaning.everywhere() else "no"),
                (f"end {text}", "yes" if meaning.in_the_end() else "no"),
                (f"least {text}", format_row(meaning.least()) if meaning else "none"),
                (f"plain {text}", format_sentence(plain(book, one))),
                (f"compare {text} ; {format_sentence(other)}", compare(book, one, other).told()),
            ])


class InvalidTest(DeskCase):
    def test_other_first_words(self):
        for line in ("", " ", "x", "hello", "Names", "NAMES", "name", "says x true", "ask x", "quit", "redo\n",
                     "names\n", "help",
                     "levels 2", "true", "not x", "undo;", ";", "unsay\nx", "say\nx true", "limit 3", "twin", "do",
                     "compares x ; x",
                     "valid\tx", "book", "history", "kept"):
            self.assert_unchanged(self.desk(), line, "invalid")

    def test_empty_words(self):
        for line in ("names", "undo", "redo", "show x", "unsay x", "rename x u", "inline x", "say x true",
                     "say u (x and x)",
                     "valid x", "end not x", "least (x or g)", "plain x", "compare x ; g",
                     "compare (x and g) ; shown 0 x",
                     "unsay nobody", "say X true", "valid u"):
            words = line.split(" ")
            for at in range(len(words) + 1):
                self.assert_unchanged(self.desk(), " ".join(words[:at] + [""] + words[at:]), "invalid")
            self.assert_unchanged(self.desk(), line.replace(" ", "  ") + " ", "invalid")

    def test_another_number_of_words(self):
        for line in ("names x", "names names", "undo undo", "undo 2", "redo x", "show", "show x y", "unsay",
                     "unsay x x",
                     "unsay nobody else", "rename", "rename x", "rename x u v", "rename nobody", "inline", "inline x y",
                     "say",
                     "say x", "say true", "say X", "valid", "end", "least", "plain", "compare", "compare x",
                     "compare ;", "compare x ;",
                     "compare ; x", "compare x x", "compare x g", "compare x ; g ; x", "compare x ; ; g", "compare ; ;",
                     "compare x;g", "compare x; g", "compare x ;g", "compare ; x ; g", "compare x ; g ;"):
            self.assert_unchanged(self.desk(), line, "invalid")

    def test_sentences_that_cannot_be_parsed(self):
        for text in ("X", "(x)", "x g", "x and g", "(x and g", "not", "shown x", "shown 2 x", "shown 00 x", "then",
                     "( x and g)",
                     "(x and g))", "abcdefg", "x\n", "0", "(x & g)", "shown", "(not x)", "true true", "; x", "x ;",
                     "="):
            for line in (f"say u {text}", f"say X {text}", f"valid {text}", f"end {text}", f"least {text}",
                         f"plain {text}",
                         f"compare {text} ; x", f"compare x ; {text}", f"compare {text} ; u", f"compare u ; {text}",
                         f"compare {text} ; {text}"):
                self.assert_unchanged(self.desk(), line, "invalid")

    def test_this_is_checked_before_all_errors(self):
        desk = Desk()
        for line in ("undo x", "redo ", "unsay a b", "rename a", "say X", "say X shown 2 x", "say X (y)", "valid u v",
                     "compare u ; X",
                     "compare X ; u", "compare u", "show", "show x ", "inline", "plain shown 0", "least u ", "end  u"):
            self.assert_unchanged(desk, line, "invalid")

    def test_nested_as_deep_as_texts_may_be(self):
        desk = Desk()
        for text in ("not " * 60 + "true", "(true and " * 60 + "false" + ")" * 60):
            self.assertEqual(desk.say("valid " + text), "yes" if text[0] == "n" else "no")
            self.assertEqual((desk.say("say x " + text), desk.say("show x")), ("ok", text))
            self.assertEqual(desk.say("valid " + text + ")"), "invalid")
            self.assertEqual(desk.say("say x " + text[:-1] + " "), "invalid")


class DrawnTest(DeskCase):
    def test_drawn_lines(self):
        """Lines of words that are put together at will are answered as their forms say."""
        drawing = Drawing(93)
        words = ["x", "g", "u", "X", "true", "not", "not x", "shown 0 x", "(x and g)", ";", "", "say", "(x"]
        found = {}
        for _ in range(4000):
            desk = self.desk()
            word = drawing.choice(list(FORMS) + ["other"])
            line = " ".join([word] + [drawing.choice(words) for _ in range(drawing.choice([0, 1, 1, 2, 2, 3, 3]))])
            before, answer = facts(desk.store()), desk.say(line)
            found.setdefault(answer.split(" ")[0], []).append(line)
            self.assertEqual(answer == "invalid", not self.has_form(line), line)
            if answer in ("invalid", "yes", "no") or answer.startswith("error "):
                self.assertEqual(facts(desk.store())[:3], before[:3])
            if answer.startswith("error "):
                kind = getattr(errors, answer[6:])
                self.assertTrue(issubclass(kind, (VowError, Missing, NothingLeft)))
        self.assertLessEqual({"invalid", "ok", "error", "yes", "no", "x", "2"}, set(found))

    def has_form(self, line):
        words = line.split(" ")
        if "" in words or words[0] not in FORMS:
            return False
        form, rest = FORMS[words[0]], words[1:]
        if form == "S;S":
            halves = " ".join(rest).split(" ; ")
            return len(halves) == 2 and all([sentence_told(2, half) for half in halves])
        if "S" not in form:
            return len(rest) == len(form)
        return len(rest) >= len(form) and sentence_told(2, " ".join(rest[len(form) - 1:])) is not None


if __name__ == "__main__":
    unittest.main()
