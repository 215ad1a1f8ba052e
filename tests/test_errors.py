"""Point 5, and the interface of fewrules/errors.py."""

import copy
import pickle
import unittest

from fewrules import errors

ONE = {
    "TooLarge": "limit",
    "InvalidSignature": "reason",
    "InvalidWorld": "reason",
    "InvalidTask": "reason",
    "InvalidBody": "reason",
    "InvalidTheory": "reason",
    "InvalidLine": "reason",
}


class ErrorsTest(unittest.TestCase):
    def test_base_class_is_a_value_error(self):
        self.assertEqual(errors.FewrulesError.__bases__, (ValueError,))

    def test_each_class_is_directly_below_the_base(self):
        for name in [*ONE, "TextError", "UnknownExample", "NoTheory"]:
            with self.subTest(name):
                self.assertEqual(getattr(errors, name).__bases__, (errors.FewrulesError,))

    def test_classes_of_one_argument(self):
        for name, attribute in ONE.items():
            with self.subTest(name):
                kind = getattr(errors, name)
                self.assertEqual(vars(kind("word")), {attribute: "word"})
                self.assertEqual(vars(kind(**{attribute: "word"})), {attribute: "word"})

    def test_text_error(self):
        told = {"line": 3, "column": 7, "reason": "count"}
        self.assertEqual(vars(errors.TextError(3, 7, "count")), told)
        self.assertEqual(vars(errors.TextError(line=3, column=7, reason="count")), told)

    def test_unknown_example_and_no_theory(self):
        example = (0, "goal", ("ann",))
        self.assertEqual(errors.UnknownExample(example).example, example)
        self.assertIsNone(errors.UnknownExample(None).example)
        self.assertEqual(vars(errors.NoTheory()), {})

    def test_an_error_is_caught_as_the_base_and_as_a_value_error(self):
        for base in (errors.FewrulesError, ValueError):
            with self.assertRaises(base):
                raise errors.InvalidTask("again")

    def test_an_error_can_be_copied(self):
        found = errors.TextError(1, 2, "word")
        for other in (copy.copy(found), pickle.loads(pickle.dumps(found))):
            self.assertEqual(vars(other), vars(found))
