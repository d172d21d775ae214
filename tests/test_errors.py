"""Tests of filledrows.errors."""

import copy
import inspect
import unittest

from filledrows import errors
from tests.samples import ODD_VALUES, WRONG_LINES

PYTHON_BASES = {"WrongValue": ValueError, "WrongName": LookupError, "NoAnswer": ArithmeticError}

# Each error with its base class and the name of its attribute.
LISTED = {
    "InvalidLine": ("WrongValue", "given"),
    "InvalidPlan": ("WrongValue", "given"),
    "InvalidKind": ("WrongValue", "given"),
    "InvalidNumber": ("WrongValue", "given"),
    "InvalidIndex": ("WrongValue", "given"),
    "InvalidText": ("WrongValue", "given"),
    "InvalidName": ("WrongValue", "given"),
    "InvalidWish": ("WrongValue", "given"),
    "NotAProgram": ("WrongValue", "given"),
    "InvalidLayers": ("WrongValue", "index"),
    "InvalidChanges": ("WrongValue", "index"),
    "WrongRow": ("WrongValue", "index"),
    "UnknownName": ("WrongName", "given"),
    "InUse": ("WrongName", "index"),
    "NothingToUndo": ("NoAnswer", None),
    "Broken": ("NoAnswer", "index"),
    "TooMany": ("NoAnswer", "limit"),
}

WITH_ATTRIBUTE = {name: attribute for name, (_, attribute) in LISTED.items() if attribute}
WITHOUT_ATTRIBUTE = [*PYTHON_BASES, "NothingToUndo"]
VALUES = ODD_VALUES + WRONG_LINES + ["", "given", "a text", (1, -1), 0, None]


class Attributes(unittest.TestCase):

    def test_by_position(self):
        for name, attribute in WITH_ATTRIBUTE.items():
            for value in VALUES:
                with self.subTest(name):
                    error = getattr(errors, name)(value)
                    self.assertIs(getattr(error, attribute), value)
                    self.assertEqual(list(vars(error)), [attribute])

    def test_by_name(self):
        for name, attribute in WITH_ATTRIBUTE.items():
            for value in VALUES:
                with self.subTest(name):
                    error = getattr(errors, name)(**{attribute: value})
                    self.assertIs(getattr(error, attribute), value)
                    self.assertEqual(list(vars(error)), [attribute])

    def test_the_value_is_kept_as_it_was_passed(self):
        for name, attribute in WITH_ATTRIBUTE.items():
            for value in ([1, [2]], {"a": [1]}, ([1], {})):
                with self.subTest(name):
                    before = copy.deepcopy(value)
                    error = getattr(errors, name)(value)
                    self.assertIs(getattr(error, attribute), value)
                    self.assertEqual(value, before)

    def test_the_attribute_is_needed_and_no_other_one_taken(self):
        for name in WITH_ATTRIBUTE:
            with self.subTest(name):
                with self.assertRaises(TypeError):
                    getattr(errors, name)()
                with self.assertRaises(TypeError):
                    getattr(errors, name)(1, 2)
                with self.assertRaises(TypeError):
                    getattr(errors, name)(other=1)

    def test_objects_do_not_share_their_attribute(self):
        for name, attribute in WITH_ATTRIBUTE.items():
            with self.subTest(name):
                one = getattr(errors, name)(1)
                other = getattr(errors, name)((1, -1))
                self.assertEqual(getattr(one, attribute), 1)
                self.assertEqual(getattr(other, attribute), (1, -1))

    def test_those_without_an_attribute(self):
        for name in WITHOUT_ATTRIBUTE:
            with self.subTest(name):
                error = getattr(errors, name)()
                self.assertEqual(vars(error), {})
                for attribute in ("given", "index", "limit"):
                    self.assertFalse(hasattr(error, attribute))


class Bases(unittest.TestCase):

    def test_the_base_classes_belong_to_the_class_of_python_alone(self):
        for name, python_base in PYTHON_BASES.items():
            with self.subTest(name):
                self.assertEqual(getattr(errors, name).__bases__, (python_base,))

    def test_each_error_belongs_to_its_base_class_alone(self):
        for name, (base, _) in LISTED.items():
            with self.subTest(name):
                self.assertEqual(getattr(errors, name).__bases__, (getattr(errors, base),))

    def test_no_error_belongs_to_another_class_of_the_package(self):
        names = [*PYTHON_BASES, *LISTED]
        for name in names:
            base = LISTED.get(name, (None,))[0]
            for other in names:
                with self.subTest(name=name, other=other):
                    belongs = issubclass(getattr(errors, name), getattr(errors, other))
                    self.assertEqual(belongs, other in (name, base))

    def test_each_error_is_one_of_the_class_of_python_of_its_base(self):
        for name, (base, _) in LISTED.items():
            for python_base in PYTHON_BASES.values():
                with self.subTest(name=name, python_base=python_base):
                    belongs = issubclass(getattr(errors, name), python_base)
                    self.assertEqual(belongs, python_base is PYTHON_BASES[base])

    def test_each_error_is_caught_as_its_bases(self):
        for name, (base, attribute) in LISTED.items():
            for caught in (getattr(errors, name), getattr(errors, base), PYTHON_BASES[base]):
                with self.subTest(name=name, caught=caught):
                    with self.assertRaises(caught):
                        raise getattr(errors, name)(*([1] if attribute else []))

    def test_the_module_defines_the_listed_classes_and_no_others(self):
        defined = [name for name, value in vars(errors).items()
                   if inspect.isclass(value) and value.__module__ == "filledrows.errors"]
        self.assertEqual(sorted(defined), sorted([*PYTHON_BASES, *LISTED]))

    def test_each_class_with_an_attribute_sets_it_in_its_own_body(self):
        for name in WITH_ATTRIBUTE:
            with self.subTest(name):
                self.assertIn("__init__", vars(getattr(errors, name)))


if __name__ == "__main__":
    unittest.main()
