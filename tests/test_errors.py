import unittest

from vowstair import errors

UNDER_VOW = {
    "InvalidLevels": [], "InvalidStair": [], "InvalidRow": [], "LevelsDiffer": [],
    "InvalidName": ["name"], "DuplicateName": ["name"], "InvalidSentence": ["index"], "Unguarded": ["name"],
    "TooMany": ["most"], "TooLong": ["most"], "InvalidDoer": ["name"], "InvalidCommand": ["index"],
    "InvalidLimit": ["value"], "ParseError": ["line"],
}
BASES = {"VowError": ValueError, "Missing": LookupError, "UnknownName": errors.Missing, "NothingLeft": IndexError}
FIELDS = {"VowError": [], "Missing": [], "UnknownName": ["name"], "NothingLeft": []}
BASES.update({word: errors.VowError for word in UNDER_VOW})
FIELDS.update(UNDER_VOW)
WORTHS = {"name": "x", "index": 3, "most": 12, "value": 20001, "line": 4}
OTHERS = {"name": "", "index": 0, "most": 0, "value": -1, "line": 0}


class ErrorsTest(unittest.TestCase):
    def test_every_class_lies_directly_under_its_base_alone(self):
        for word, base in BASES.items():
            with self.subTest(word):
                self.assertEqual(getattr(errors, word).__bases__, (base,))

    def test_no_class_is_a_kind_of_another_beside_its_bases(self):
        for word in BASES:
            found = [other for other in BASES if issubclass(getattr(errors, word), getattr(errors, other))]
            wanted = {word}
            if word in UNDER_VOW:
                wanted.add("VowError")
            if word == "UnknownName":
                wanted.add("Missing")
            with self.subTest(word):
                self.assertEqual(set(found), wanted)

    def test_kinds_of_python_errors(self):
        for word in BASES:
            kind = getattr(errors, word)
            found = [issubclass(kind, ValueError), issubclass(kind, LookupError), issubclass(kind, IndexError)]
            under_vow = word in UNDER_VOW or word == "VowError"
            with self.subTest(word):
                self.assertEqual(found, [under_vow, not under_vow, word == "NothingLeft"])
                self.assertFalse(issubclass(kind, KeyError))

    def test_the_classes_are_defined_in_this_file_and_no_others(self):
        found = [word for word, kind in vars(errors).items() if isinstance(kind, type)]
        self.assertEqual(sorted(found), sorted(BASES))
        for word in BASES:
            kind = getattr(errors, word)
            self.assertEqual((kind.__module__, kind.__name__), ("vowstair.errors", word))

    def test_code_is_the_name_of_the_class_on_each_object(self):
        for word, fields in FIELDS.items():
            error = getattr(errors, word)(*[WORTHS[field] for field in fields])
            with self.subTest(word):
                self.assertEqual(error.code, word)
                self.assertIn("code", vars(error))

    def test_parameters_by_position_and_by_keyword(self):
        for word, fields in FIELDS.items():
            for worths in (WORTHS, OTHERS):
                given = {field: worths[field] for field in fields}
                for error in (getattr(errors, word)(*given.values()), getattr(errors, word)(**given)):
                    with self.subTest(word, given=given):
                        self.assertEqual(vars(error), {"code": word, **given})

    def test_other_parameters_are_not_taken(self):
        for word, fields in FIELDS.items():
            kind = getattr(errors, word)
            with self.subTest(word):
                with self.assertRaises(TypeError):
                    kind(*[1 for _ in fields], 2)
                with self.assertRaises(TypeError):
                    kind(other=2, **{field: 1 for field in fields})
                if fields:
                    with self.assertRaises(TypeError):
                        kind()

    def test_raised_and_caught_by_its_class_and_its_base(self):
        for word, base in BASES.items():
            kind = getattr(errors, word)
            for caught in (kind, base):
                with self.subTest(word), self.assertRaises(caught) as held:
                    raise kind(*[WORTHS[field] for field in FIELDS[word]])
                self.assertEqual(held.exception.code, word)

    def test_two_errors_keep_their_own_fields(self):
        one, other = errors.InvalidName("x"), errors.InvalidName("y")
        self.assertEqual([one.name, other.name], ["x", "y"])


if __name__ == "__main__":
    unittest.main()
