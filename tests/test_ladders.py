import copy
import unittest

from tests.drawn import rows_near
from tests.drawn_books import BookDrawing
from tests.samples import OMEGA, ONE, TWO, ZERO
from vowstair.books import Book
from vowstair.ladders import ladder_holds, ladder_of
from vowstair.meanings import Meaning
from vowstair.ordinals import natural, omega_power, raised, successor
from vowstair.rows import is_row
from vowstair.sentences import FALSE, TRUE

G, X, Y, Z = [("name", name) for name in "gxyz"]
LAST = [(ZERO, (), (), None)]


def shown(level, sentence):
    return ("shown", level, sentence)


def is_true(book, sentence, standing):
    """Whether a sentence is true where just these slots stand."""
    word = sentence[0]
    if word == "name":
        return is_true(book, book[sentence[1]], standing)
    if word == "shown":
        return book.slots().index(sentence[1:]) in standing
    parts = [is_true(book, part, standing) for part in sentence[1:]]
    if word in ("true", "false"):
        return word == "true"
    if word == "not":
        return not parts[0]
    if word == "then":
        return not parts[0] or parts[1]
    return all(parts) if word == "and" else any(parts)


def stair_of(book, sentence, standing, ladder):
    """The stair of a sentence behind a row at which these slots of lower levels stand."""
    if ladder is None:
        return is_true(book, sentence, standing)
    return tuple([(step[0], stair_of(book, sentence, standing + step[1], step[3])) for step in ladder])


def truth_at(book, sentence, rest, standing, ladder):
    for ordinal in rest:
        step = [step for step in ladder if step[0] <= ordinal][-1]
        standing, ladder = standing + step[1], step[3]
    return is_true(book, sentence, standing)


def least_with(begin, rest):
    return raised(begin, rest[0]) if rest else begin


class LadderCheck(unittest.TestCase):
    """Point [11], word by word; the least rows and "no rest" are held against rests near the begins."""

    def assert_ladder(self, book, level, known, ladder):
        if level == book.levels:
            self.assertIsNone(ladder)
            return
        self.assertIs(type(ladder), list)
        own = tuple([index for index, slot in enumerate(book.slots()) if slot[0] == level])
        self.assertEqual((ladder[0][0], ladder[0][1]), (ZERO, own))
        for at, step in enumerate(ladder):
            self.assertEqual((type(step), len(step), type(step[1]), type(step[2])), (tuple, 4, tuple, tuple))
            behind = ladder[at + 1] if at + 1 < len(ladder) else None
            self.assert_ladder(book, level + 1, known + step[1], step[3])
            self.assert_step(book, level, known + step[1], step, behind)

    def assert_step(self, book, level, known, step, behind):
        begin, standing, falls, inner = step
        places = book.levels - level - 1
        fallen = [index for index, _ in falls]
        self.assertEqual(fallen, [index for index in standing if behind is not None and index not in behind[1]])
        self.assertEqual(list(standing), sorted(standing))
        if behind is None:
            self.assertEqual(falls, ())
        else:
            self.assertTrue(begin < behind[0] and falls != () and set(behind[1]) < set(standing))
            self.assertEqual(behind[1], tuple([index for index in standing if index not in fallen]))
        rows = dict(falls)
        for index in standing:
            sentence = book.slots()[index][1]
            rests = rows_near(places, [stair_of(book, sentence, known, inner)])
            wrong = sorted([rest for rest in rests if not truth_at(book, sentence, rest, known, inner)])
            found = [least_with(begin, rest) for rest in wrong]
            if index in rows:
                self.assertTrue(is_row(places, rows[index]))
                self.assertEqual(rows[index], wrong[0])
                self.assertEqual(successor(least_with(begin, rows[index])), behind[0])
                self.assertEqual(successor(min(found)), behind[0])
            elif behind is None:
                self.assertEqual(wrong, [])
            else:
                self.assertTrue(all(successor(ordinal) > behind[0] for ordinal in found))


class LadderTest(LadderCheck):
    def test_the_example(self):
        found = ladder_of(Book.made_of(1, g=("not", ("shown", 0, ("name", "g")))))
        self.assertEqual(found, [((), (0,), ((0, ()),), None), ((((), 1),), (), (), None)])

    def test_books_without_slots(self):
        for book in (Book.empty(1), Book.made_of(1, x=TRUE)):
            self.assertEqual(ladder_of(book), LAST)
        self.assertEqual(ladder_of(Book.empty(2)), [(ZERO, (), (), LAST)])
        self.assertEqual(ladder_of(book=Book.empty(3)), [(ZERO, (), (), [(ZERO, (), (), LAST)])])

    def test_slots_that_fall_one_by_one_and_together(self):
        book = Book.made_of(1, x=shown(0, shown(0, FALSE)), y=shown(0, FALSE), z=shown(0, ("not", TRUE)), u=shown(0, Z))
        self.assertEqual(book.slots(), [(0, shown(0, FALSE)), (0, FALSE), (0, ("not", TRUE)), (0, Z)])
        self.assertEqual(ladder_of(book), [
            (ZERO, (0, 1, 2, 3), ((1, ()), (2, ())), None),
            (ONE, (0, 3), ((0, ()), (3, ())), None),
            (TWO, (), (), None),
        ])

    def test_slots_of_two_levels(self):
        # Slot 0 falls behind the square of omega, for the rest at which two levels of slots have fallen.
        book = Book.made_of(2, x=shown(0, shown(1, shown(1, FALSE))))
        low = [(ZERO, (1, 2), ((2, ()),), None), (ONE, (1,), ((1, ()),), None), (TWO, (), (), None)]
        begin = successor(omega_power(TWO))
        self.assertEqual(ladder_of(book), [(ZERO, (0,), ((0, (TWO,)),), low), (begin, (), (), low)])

    def test_slots_of_three_levels(self):
        book = Book.made_of(3, x=shown(0, shown(1, shown(2, FALSE))))
        last = [(ZERO, (2,), ((2, ()),), None), (ONE, (), (), None)]
        inner = [(ZERO, (1,), ((1, (ONE,)),), last), (successor(OMEGA), (), (), last)]
        row = (successor(OMEGA), ZERO)
        begin = successor(omega_power(successor(OMEGA)))
        self.assertEqual(ladder_of(book), [(ZERO, (0,), ((0, row),), inner), (begin, (), (), inner)])

    def test_inner_ladders_depend_on_the_slots_before(self):
        book = Book.made_of(2, x=shown(0, FALSE), y=shown(1, ("not", shown(0, FALSE))))
        fallen = [(ZERO, (1,), ((1, ()),), None), (ONE, (), (), None)]
        kept = [(ZERO, (1,), (), None)]
        self.assertEqual(ladder_of(book), [(ZERO, (0,), ((0, (ZERO,)),), fallen), (ONE, (), (), kept)])

    def test_drawn_books_word_by_word(self):
        for book in BookDrawing(1).books(150, most=5, size=18):
            self.assert_ladder(book, 0, (), ladder_of(book))

    def test_books_of_many_slots_word_by_word(self):
        drawing = BookDrawing(2)
        found = 0
        while found < 15:
            book = drawing.book(3, most=12, size=20)
            if len(book.slots()) > 9:
                found += 1
                self.assert_ladder(book, 0, (), ladder_of(book))

    def test_the_slots_of_the_steps_give_the_meanings(self):
        for book in BookDrawing(3).books(150, most=5, size=18):
            ladder = ladder_of(book)
            for name in book.names():
                stair = stair_of(book, ("name", name), (), ladder)
                self.assertEqual(Meaning(book.levels, stair), book.meaning(("name", name)))
            for level, sentence in book.slots():
                stair = stair_of(book, ("shown", level, sentence), (), ladder)
                self.assertEqual(Meaning(book.levels, stair), book.meaning(("shown", level, sentence)))

    def test_returned_ladders_are_new(self):
        book = Book.made_of(2, x=shown(0, shown(1, FALSE)))
        found = ladder_of(book)
        kept = copy.deepcopy(found)
        found[0][3].append(None)
        found.pop()
        self.assertEqual(ladder_of(book), kept)
        self.assertTrue(ladder_holds(book, kept))


def spoiled(value, path=()):
    """Values that differ from one of tuples, lists and numbers at one place."""
    others = [None, True, False, 0, 1, 2, -1, 7, "", "x", (), [], ((),), [None], (None, None), ((), (), (), ())]
    for other in others:
        if (type(other), other) != (type(value), value):
            yield other, path
    if isinstance(value, (tuple, list)):
        kind = type(value)
        yield (list if kind is tuple else tuple)(value), path
        yield value + kind((None,)), path
        yield kind((None,)) + value, path
        for at, item in enumerate(value):
            before, behind = value[:at], value[at + 1:]
            yield before + behind, path
            yield before + kind((item, item)) + behind, path
            if at > 0 and value[at - 1] != item:
                yield value[:at - 1] + kind((item, value[at - 1])) + behind, path
            for other, inner in spoiled(item, path + (at,)):
                yield before + kind((other,)) + behind, inner
    elif isinstance(value, int) and not isinstance(value, bool):
        yield value + 1, path
        yield bool(value), path


def falls_in(ladder, known=()):
    """The places of the falls: the path of each one, its slot, its row and what was given."""
    for at, (begin, standing, falls, inner) in enumerate(ladder):
        for place, (index, row) in enumerate(falls):
            yield (at, 2, place, 1), index, row, begin, known + standing, inner
        if inner is not None:
            for path, *told in falls_in(inner, known + standing):
                yield ((at, 3) + path, *told)


def put(value, path, other):
    if not path:
        return other
    items = list(value)
    items[path[0]] = put(items[path[0]], path[1:], other)
    return type(value)(items)


class HoldsTest(LadderCheck):
    def books(self, many, seed):
        yield Book.made_of(1, g=("not", shown(0, G)))
        yield Book.made_of(2, x=shown(0, shown(1, shown(1, FALSE))), y=shown(0, ("or", X, shown(1, FALSE))))
        yield Book.made_of(3, x=shown(0, shown(1, shown(2, FALSE))), y=shown(0, X))
        yield from BookDrawing(seed).books(many)

    def test_returned_ladders_hold(self):
        for book in self.books(150, 4):
            self.assertIs(ladder_holds(book, ladder_of(book)), True)
            self.assertIs(ladder_holds(ladder=ladder_of(book), book=book), True)

    def test_ladders_of_other_books(self):
        books = list(self.books(60, 5))
        held = 0
        for one in books:
            for other in books[:20]:
                same = one.levels == other.levels and ladder_of(one) == ladder_of(other)
                held += same
                self.assertIs(ladder_holds(one, ladder_of(other)), same)
        self.assertGreater(held, 20)

    def test_rows_that_are_right_and_rows_that_are_not(self):
        # All steps begin at 0 or at a successor. So of three levels at most, no
        # other row than the least one is right; this is told by the definition here.
        seen = {True: 0, False: 0}
        for book in self.books(90, 6):
            ladder = ladder_of(book)
            for path, index, row, begin, known, inner in list(falls_in(ladder)):
                sentence = book.slots()[index][1]
                rests = rows_near(len(row), [stair_of(book, sentence, known, inner)])
                for rest in rests[:: max(1, len(rests) // 12)] + [row]:
                    right = not truth_at(book, sentence, rest, known, inner)
                    right = right and least_with(begin, rest) == least_with(begin, row)
                    seen[right] += 1
                    self.assertIs(ladder_holds(book, put(ladder, path, rest)), right)
        self.assertGreater(min(seen.values()), 200)

    def test_other_rows_by_hand(self):
        book = Book.made_of(3, x=shown(0, ("and", shown(1, FALSE), shown(2, FALSE))))
        ladder = ladder_of(book)
        self.assertEqual(ladder[0][2], ((0, (ONE, ZERO)),))
        for rest, wanted in (((ONE, ZERO), True), ((TWO, ZERO), False), ((ZERO, ZERO), False), ((OMEGA, ONE), False)):
            self.assertIs(ladder_holds(book, put(ladder, (0, 2, 0, 1), rest)), wanted)
        for value in (None, (), (ONE,), (ONE, ZERO, ZERO), (ONE, ONE), [ONE, ZERO], (1, 0), 0, True, ((ONE, ZERO),)):
            self.assertIs(ladder_holds(book, put(ladder, (0, 2, 0, 1), value)), False)

    def test_rows_behind_a_begin(self):
        # Behind omega + 1 the sentence of slot 0 fails at the rest 1, and so at omega * 2 first.
        book = Book.made_of(2, x=shown(0, ("or", shown(0, shown(1, FALSE)), shown(1, FALSE))))
        ladder = ladder_of(book)
        begins = [ZERO, successor(OMEGA), successor(omega_power(ONE, times=2))]
        self.assertEqual([step[0] for step in ladder], begins)
        self.assertEqual([step[2] for step in ladder], [((1, (ONE,)),), ((0, (ONE,)),), ()])
        for rest in ((ZERO,), (TWO,), (OMEGA,)):
            self.assertIs(ladder_holds(book, put(ladder, (1, 2, 0, 1), rest)), False)

    def test_values_that_are_no_ladders(self):
        for book in self.books(3, 7):
            ladder = ladder_of(book)
            for value in (None, True, 0, 1, "", "ladder", (), [], [None], [()], [[]], tuple(ladder), [ladder], {}):
                self.assertIs(ladder_holds(book, value), False)
            for many in (1, 5, 39):
                value = ()
                for _ in range(many):
                    value = [value] if many == 5 else (value,)
                self.assertIs(ladder_holds(book, value), False)
                self.assertIs(ladder_holds(book, [value] + ladder[1:]), False)

    def test_one_wrong_place_at_any_depth(self):
        for book in self.books(6, 8):
            ladder = ladder_of(book)
            kept = copy.deepcopy(ladder)
            rows = [path for path, *_ in falls_in(ladder)]
            for value, path in spoiled(ladder):
                # A row may be another right one; elsewhere there is one right value alone.
                if not any(path[:len(row)] == row for row in rows):
                    self.assertIs(ladder_holds(book, value), False, (book.pairs(), value))
                elif ladder_holds(book, value):
                    self.assert_right_rows(book, value)
            self.assertEqual(ladder, kept)

    def assert_right_rows(self, book, ladder):
        for _, index, row, begin, known, inner in falls_in(ladder):
            self.assertTrue(is_row(len(row), row))
            self.assertFalse(truth_at(book, book.slots()[index][1], row, known, inner))

    def test_steps_taken_out_doubled_and_exchanged(self):
        book = Book.made_of(1, x=shown(0, shown(0, FALSE)), y=shown(0, ("not", TRUE)))
        ladder = ladder_of(book)
        self.assertEqual(len(ladder), 3)
        for at in range(3):
            self.assertIs(ladder_holds(book, ladder[:at] + ladder[at + 1:]), False)
            self.assertIs(ladder_holds(book, ladder[:at] + [ladder[at]] + ladder[at:]), False)
            for begin in (ZERO, ONE, TWO, natural(3), OMEGA, [], None, 0):
                wanted = begin == ladder[at][0] and isinstance(begin, tuple)
                self.assertIs(ladder_holds(book, put(ladder, (at, 0), begin)), wanted)
        self.assertIs(ladder_holds(book, ladder[::-1]), False)
        self.assertIs(ladder_holds(book, ladder + ladder[-1:]), False)

    def test_true_and_false_are_no_indexes_and_no_counts(self):
        book = Book.made_of(1, x=shown(0, FALSE), y=shown(0, shown(0, FALSE)))
        ladder = ladder_of(book)
        self.assertEqual(ladder, [(ZERO, (0, 1), ((0, ()),), None), (ONE, (1,), ((1, ()),), None), (TWO, (), (), None)])
        for path, other in (
            ((0, 1), (False, 1)), ((0, 1), (0, True)), ((0, 2, 0, 0), False), ((1, 1), (True,)), ((1, 2, 0, 0), True),
            ((1, 0), ((ZERO, True),)),
        ):
            self.assertIs(ladder_holds(book, put(ladder, path, other)), False)


if __name__ == "__main__":
    unittest.main()
