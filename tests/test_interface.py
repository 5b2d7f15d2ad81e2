"""The names, parameters and files of the document's interface."""

import importlib
import inspect
import unittest

FUNCTIONS = {
    "ordinals": [
        "is_ordinal(value)", "natural(number)", "omega_power(exponent, *, times=1)", "plus(one, other)",
        "successor(ordinal)", "end_of(ordinal)", "raised(ordinal, end)", "end_limit(low, behind)",
    ],
    "rows": ["check_levels(levels)", "is_row(levels, value)", "check_row(levels, value)", "least_row(levels)",
             "is_below(level, row, other)"],
    "stairs": ["is_stair(levels, value)", "check_stair(levels, value)", "value_at(stair, row)", "tidy(stair)"],
    "meanings": ["either(*meanings, levels=1)", "both(*meanings, levels=1)"],
    "sentences": [
        "is_name(text)", "is_sentence(levels, value)", "check_sentence(levels, value, *, index=0)",
        "size_of(sentence)", "names_in(sentence)", "slots_in(sentence)", "open_names(sentence)", "nodes_of(sentence)",
        "replaced(sentence, names)",
    ],
    "evaluation": ["meaning_of(levels, sentence, *, names=())"],
    "ladders": ["ladder_of(book)", "ladder_holds(book, ladder)"],
    "plain": ["plain(book, sentence, *, limit=20000)"],
    "notation": [
        "format_ordinal(ordinal)", "format_row(row)", "format_sentence(sentence)", "parse_ordinal(text)",
        "parse_row(levels, text)", "parse_sentence(levels, text)",
    ],
    "verdicts": ["compare(book, one, other)"],
    "derivations": ["derivation_holds(book, steps)", "first_gap(book, steps)"],
    "doers": ["act_name(one, other)"],
    "pages": ["page(store)", "read_page(text)"],
}
# For each class: its own methods, its class methods and its properties.
CLASSES = {
    ("meanings", "Meaning"): (
        ["__init__(self, levels, stair)", "stair(self)", "least(self)", "everywhere(self)", "in_the_end(self)",
         "lies_in(self, other)", "shown(self, level)", "missing_below(self, level, row)"],
        ["always(levels)", "never(levels)", "beyond(levels, place, ordinal)"], ["levels"],
    ),
    ("books", "Book"): (
        ["__init__(self, levels, pairs=())", "names(self)", "pairs(self)", "slots(self)", "meaning(self, sentence)",
         "stands(self, sentence, row)", "is_valid(self, sentence)", "in_the_end(self, sentence)",
         "extended(self, name, sentence)", "without(self, name)", "renamed(self, name, other)", "inlined(self, name)"],
        ["empty(levels)", "made_of(levels, **sentences)"], ["levels"],
    ),
    ("verdicts", "Verdict"): (["__init__(self, levels, row)", "told(self)"], [], []),
    ("verdicts", "Alike"): (["__init__(self, levels)", "told(self)"], [], []),
    ("verdicts", "Parted"): (["__init__(self, levels, row, first)", "told(self)"], [], []),
    ("doers", "Field"): (
        ["__init__(self, levels, rules)", "doers(self)", "book(self)", "acts(self, one, other)", "walk(self)",
         "chart(self)"], [], [],
    ),
    ("store", "Store"): (
        ["__init__(self, *, levels=2, limit=12)", "set_limit(self, value)", "do(self, command)",
         "do_all(self, commands)", "is_busy(self)", "undo(self)", "redo(self)", "history(self)", "book(self)",
         "ask(self, sentence)", "kept(self)", "twin(self)"], [], ["limit", "solved"],
    ),
    ("desk", "Desk"): (["__init__(self, *, store=None)", "store(self)", "say(self, line)"], [], []),
}
OPERATORS = {
    ("meanings", "Meaning"): ["__add__", "__mul__", "__neg__", "__contains__", "__bool__", "__eq__", "__repr__"],
    ("books", "Book"): ["__getitem__", "__contains__", "__len__", "__eq__", "__repr__"],
    ("verdicts", "Verdict"): ["__bool__"], ("verdicts", "Alike"): ["__bool__"], ("verdicts", "Parted"): ["__bool__"],
    ("store", "Store"): ["__len__", "__eq__", "__repr__"],
}
VALUES = {
    "ordinals": {"ZERO": (), "ONE": (((), 1),), "OMEGA": (((((), 1),), 1),)}, "rows": {"MAX_LEVELS": 3},
    "sentences": {"TRUE": ("true",), "FALSE": ("false",)}, "plain": {"MAX_PLAIN": 20000},
    "doers": {"MAX_DOERS": 3}, "store": {"MOST_NAMES": 12},
}


def file_of(word):
    return importlib.import_module("vowstair." + word)


def signature_of(call):
    return call.__name__ + str(inspect.signature(call))


class InterfaceTest(unittest.TestCase):
    def test_functions_are_defined_in_their_files(self):
        for word, signatures in FUNCTIONS.items():
            for signature in signatures:
                call = getattr(file_of(word), signature.partition("(")[0])
                with self.subTest(word, signature=signature):
                    self.assertEqual((call.__module__, signature_of(call)), ("vowstair." + word, signature))

    def test_methods_are_defined_in_their_classes(self):
        for (word, name), (methods, class_methods, properties) in CLASSES.items():
            kind = getattr(file_of(word), name)
            self.assertEqual((kind.__module__, kind.__name__), ("vowstair." + word, name))
            for signature in methods:
                own = vars(kind)[signature.partition("(")[0]]
                self.assertEqual(signature_of(own), signature)
            for signature in class_methods:
                self.assertIsInstance(vars(kind)[signature.partition("(")[0]], classmethod)
                self.assertEqual(signature_of(getattr(kind, signature.partition("(")[0])), signature)
            for own in properties:
                self.assertIsInstance(vars(kind)[own], property)

    def test_operators_are_defined_in_their_classes(self):
        for (word, name), operators in OPERATORS.items():
            for operator in operators:
                self.assertTrue(inspect.isfunction(vars(getattr(file_of(word), name))[operator]))

    def test_values(self):
        for word, values in VALUES.items():
            for name, value in values.items():
                self.assertEqual(getattr(file_of(word), name), value)

    def test_what_yields(self):
        self.assertTrue(inspect.isgeneratorfunction(file_of("sentences").nodes_of))
        self.assertTrue(inspect.isgeneratorfunction(file_of("doers").Field.walk))

    def test_the_limit_of_a_store_can_be_assigned(self):
        store = file_of("store").Store
        self.assertIsNotNone(vars(store)["limit"].fset)
        self.assertIsNone(vars(store)["solved"].fset)


if __name__ == "__main__":
    unittest.main()
