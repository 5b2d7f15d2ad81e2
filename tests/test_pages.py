import unittest

from tests.drawn import Drawing
from tests.drawn_books import BookDrawing
from tests.models import facts
from tests.texts import RESERVED, sentence_told, spoilt
from vowstair.books import Book
from vowstair.errors import Missing, ParseError, VowError
from vowstair.pages import page, read_page
from vowstair.sentences import FALSE, TRUE
from vowstair.store import Store

X, Y = [("name", name) for name in "xy"]
LETTERS = "abcdefghijklm"
PAGE = "levels 2\nx = shown 0 y\ny = not shown 1 (x and y)\nabc = true\n"


def shown(level, sentence, times=1):
    for _ in range(times):
        sentence = ("shown", level, sentence)
    return sentence


def store_of(levels, pairs):
    store = Store(levels=levels)
    store.do_all([("say", name, sentence) for name, sentence in pairs])
    return store


def told(text):
    """What a text is: the levels and the pairs of its book, or the line of the error, by the words of [17]."""
    lines = text.split("\n") if text else [""]
    if len(lines) > 1 and lines[-1] == "":
        lines = lines[:-1]
    if lines[0] not in ("levels 1", "levels 2", "levels 3"):
        return 0
    levels, pairs = int(lines[0][-1]), []
    for index, line in enumerate(lines[1:], 1):
        words = line.split(" ", 2)
        if len(words) < 3 or words[1] != "=" or not sentence_told(levels, words[2]):
            return index
        name = sentence_told(levels, words[0])
        if not name or name[0] != "name":
            return index
        pairs.append((name[1], sentence_told(levels, words[2])))
    ended = len([sign for sign in text if sign == "\n"])
    if text[-1] != "\n" or len({name for name, _ in pairs}) < len(pairs):
        return ended
    try:
        Book(levels, pairs)
    except (VowError, Missing):
        return ended
    return (levels, pairs)


class PageCase(unittest.TestCase):
    def assert_no_page(self, line, text):
        with self.assertRaises(ParseError, msg=text) as held:
            read_page(text)
        self.assertEqual((held.exception.line, held.exception.code), (line, "ParseError"), text)

    def found(self, text):
        try:
            book = read_page(text).book()
        except ParseError as error:
            return error.line
        self.assertEqual(page(read_page(text)), text)
        return (book.levels, book.pairs())


class TextTest(PageCase):
    def test_texts(self):
        store = store_of(2, [("x", shown(0, Y)), ("y", ("not", shown(1, ("and", X, Y)))), ("abc", TRUE)])
        self.assertEqual(page(store), PAGE)
        self.assertEqual(read_page(PAGE), store)
        for levels in (1, 2, 3):
            self.assertEqual(page(Store(levels=levels)), f"levels {levels}\n")
            self.assertEqual(read_page(f"levels {levels}\n"), Store(levels=levels))
        self.assertEqual(page(store=Store()), "levels 2\n")
        self.assertEqual(read_page(text="levels 1\nx = false\n").book(), Book.made_of(1, x=FALSE))

    def test_a_store_that_was_read(self):
        store = read_page(PAGE)
        self.assertIs(type(store), Store)
        self.assertEqual(facts(store)[1:], (12, (0, 0), [], 0))
        self.assertEqual((repr(store), store.is_busy()), ("Store(2 levels, 3 names, 0 steps)", False))
        store.do(("unsay", "abc"))
        store.undo()
        self.assertEqual((page(store), store.history()), (PAGE, (0, 1)))
        self.assertEqual(page(read_page(PAGE)), PAGE)

    def test_only_the_book_is_told(self):
        store = store_of(2, [("x", TRUE)])
        store.do(("say", "y", FALSE))
        store.undo()
        store.set_limit(3)
        store.ask(X)
        before = facts(store)
        again = read_page(page(store))
        self.assertEqual((facts(again), facts(store)), (([("x", TRUE)], 12, (0, 0), [], 0), before))

    def test_drawn_stores(self):
        drawing = BookDrawing(81)
        for book in drawing.books(150, most=6, size=18):
            store = store_of(book.levels, book.pairs())
            text = page(store)
            self.assertEqual(told(text), (book.levels, book.pairs()))
            self.assertEqual((read_page(text), read_page(text).book(), page(read_page(text))), (store, book, text))

    def test_twelve_names(self):
        text = "levels 1\n" + "".join([f"{letter} = true\n" for letter in LETTERS[:12]])
        self.assertEqual(len(read_page(text)), 12)
        self.assert_no_page(14, text + "m = true\n")


class ErrorTest(PageCase):
    def test_no_text(self):
        self.assert_no_page(0, "")

    def test_first_lines(self):
        for line in ("", " ", "levels", "levels ", "levels 0", "levels 4", "levels 01", "levels 10", "levels -1",
                     "levels +1",
                     "levels  1", "levels 1 ", " levels 1", "Levels 1", "level 1", "levels x", "levels w", "levels 1;",
                     "1",
                     "x = true", "levels = true", "levels 1 x = true", "levels1", "levels 2.0", "levels 12"):
            for behind in ("", "\n", "\nx = true\n", "\nx = X\n", "\nlevels 1\n"):
                self.assert_no_page(0, line + behind)

    def test_other_lines(self):
        for line in ("", " ", "x", "x =", "x = ", "= true", " = true", "x true", "x=true", "x= true", "x =true",
                     "x  = true",
                     "x =  true", " x = true", "x = true ", "X = true", "x1 = true", "abcdefg = true", "true = true",
                     "x == true",
                     "x = X", "x = (true)", "x = not", "x = shown 2 x", "x = shown x", "x = true = true", "x = = true",
                     "x = y = true", "levels 2", "x y = true", "x := true", "x = true;", "x = (x and y", "x = true\r"):
            self.assert_no_page(1, "levels 2\n" + line + "\n")
            self.assert_no_page(2, "levels 2\nu = true\n" + line + "\n")
            # The first such line decides.
            self.assert_no_page(2, "levels 2\nu = true\n" + line + "\nX = true\n")
            self.assert_no_page(3, "levels 2\nu = true\nu = shown 0 g\n" + line + "\nu = true")
            if line:
                self.assert_no_page(1, "levels 2\n" + line)

    def test_reserved_words(self):
        for word in RESERVED:
            self.assert_no_page(1, f"levels 1\n{word} = true\n")

    def test_levels_of_sentences(self):
        for levels in (1, 2, 3):
            for level in range(4):
                text = f"levels {levels}\nx = shown {level} true\n"
                if level < levels:
                    self.assertEqual(read_page(text).book(), Book.made_of(levels, x=shown(level, TRUE)))
                else:
                    self.assert_no_page(1, text)

    def test_texts_that_do_not_end_with_a_line_feed(self):
        self.assert_no_page(0, "levels 2")
        self.assert_no_page(1, "levels 2\nx = true")
        self.assert_no_page(3, PAGE[:-1])
        self.assert_no_page(2, "levels 2\nx = true\nx = true")
        self.assert_no_page(2, "levels 2\nx = shown 0 u\ny = y")

    def test_names_that_occur_twice(self):
        self.assert_no_page(3, "levels 2\nx = true\nx = true\n")
        self.assert_no_page(4, "levels 2\nx = true\nx = false\ny = true\n")
        self.assert_no_page(3, "levels 2\nx = true\nx = false\ny = X\n")

    def test_errors_of_the_book(self):
        self.assert_no_page(2, "levels 1\nx = shown 0 u\n")
        self.assert_no_page(3, "levels 1\nx = x\ny = true\n")
        self.assert_no_page(3, "levels 1\nx = shown 0 y\ny = (shown 0 y and x)\n")
        self.assert_no_page(2, "levels 1\nx = " + "shown 0 " * 13 + "true\n")
        self.assertEqual(len(read_page("levels 1\nx = " + "shown 0 " * 12 + "true\n").book().slots()), 12)

    def test_lines_that_are_empty(self):
        lines = PAGE.split("\n")
        for at in range(len(lines) - 1):
            self.assert_no_page(at, "\n".join(lines[:at] + [""] + lines[at:]))
        self.assert_no_page(4, PAGE + "\n")
        self.assert_no_page(4, PAGE + "\n\n")
        self.assert_no_page(0, "\n")
        self.assert_no_page(1, "levels 1\n\n")

    def test_lines_that_are_doubled(self):
        lines = PAGE.split("\n")[:-1]
        for at in range(4):
            text = "\n".join(lines[:at] + [lines[at]] + lines[at:]) + "\n"
            self.assert_no_page(1 if at == 0 else 5, text)

    def test_lines_that_are_exchanged(self):
        lines = PAGE.split("\n")[:-1]
        for at in range(3):
            text = "\n".join(lines[:at] + [lines[at + 1], lines[at]] + lines[at + 2:]) + "\n"
            if at == 0:
                self.assert_no_page(0, text)
            else:
                self.assertEqual(read_page(text).book().names()[at - 1], lines[at + 1].split(" ")[0])
                self.assertFalse(read_page(text) == read_page(PAGE))

    def test_spoilt_at_each_place(self):
        drawing = Drawing(82)
        texts = [PAGE, "levels 1\nx = shown 0 x\n", "levels 3\n",
                 "levels 3\na = shown 2 true\nb = (false or not true)\n"]
        found = []
        for text in texts:
            for wrong in spoilt(text, "\n x=(2"):
                found.append(self.found(wrong))
                self.assertEqual(found[-1], told(wrong), wrong)
            for _ in range(300):
                places = sorted([drawing.randrange(len(text) + 1) for _ in range(2)])
                wrong = text[:places[0]] + text[places[1]:]
                self.assertEqual(self.found(wrong), told(wrong), wrong)
        self.assertEqual({line for line in found if isinstance(line, int)}, {0, 1, 2, 3, 4})
        self.assertGreater(len([line for line in found if not isinstance(line, int)]), 100)


if __name__ == "__main__":
    unittest.main()
