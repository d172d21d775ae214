"""Tests of the interface as a whole: its names, arguments and values, and what holds for all of it."""

import ast
import importlib
import inspect
import pathlib
import unittest

from filledrows.books import Book
from filledrows.certificates import certify_ever, certify_more, certify_never, certify_unlike
from filledrows.checker import accepts
from filledrows.programs import Program

# The modules of the interface, each with its functions and their parameters.
FUNCTIONS = {
    "limits": {},
    "errors": {},
    "lines": {"letters": "line", "read_line": "text", "rows": "line", "fits": "line plan"},
    "programs": {},
    "running": {"taken": "program index line", "held": "program line * rounds",
                "alone": "program line * rounds"},
    "asking": {"can_hold": "program kind plan * rounds", "shown": "program kind plan * rounds",
               "miscounted": "program plan"},
    "alike": {"alike": "one other plan", "unlike": "one other plan", "lonely": "program plan",
              "more": "program plan", "needless": "program plan"},
    "reach": {"reach": "program plan * rounds"},
    "masks": {"safe_looks": "program index kind line", "safe_layers": "program index kind plan layers"},
    "mends": {"mends": "program kind plan changes"},
    "books": {},
    "checker": {"accepts": "claim certificate"},
    "certificates": {"certify_never": "program kind plan", "certify_ever": "program kind plan",
                     "certify_unlike": "one other plan", "certify_more": "program plan"},
}

# The classes of the interface that are no errors, each with its methods and their parameters.
CLASSES = {
    ("programs", "Program"): {"__init__": "layers", "read": "text", "then": "other",
                              "changed": "index layer", "without": "index"},
    ("books", "Book"): {"__init__": "", "remove": "name", "wish": "wish", "lift": "index", "undo": "",
                        "trial": "", "tried": "action"},
}

PROPERTIES = {("programs", "Program"): ["layers"], ("books", "Book"): ["names", "wishes", "changes"]}

FOLDER = pathlib.Path(importlib.import_module("filledrows").__file__).parent


def parameters(function):
    """The names of the parameters, behind a * those that are passed by name alone."""
    found = []
    for parameter in inspect.signature(function).parameters.values():
        if parameter.kind is parameter.KEYWORD_ONLY and "*" not in found:
            found.append("*")
        found.append(parameter.name)
    return " ".join(name for name in found if name != "self")


def needed(module):
    """All modules of the package that this one needs, directly or through others."""
    found, left = set(), [module]
    while left:
        tree = ast.parse((FOLDER / f"{left.pop()}.py").read_text())
        for node in ast.walk(tree):
            if isinstance(node, ast.ImportFrom) and node.module.startswith("filledrows."):
                name = node.module.split(".")[1]
                if name not in found:
                    found.add(name)
                    left.append(name)
    return found


class Interface(unittest.TestCase):

    def test_the_functions_of_each_module(self):
        for name, functions in FUNCTIONS.items():
            module = importlib.import_module(f"filledrows.{name}")
            for function, wanted in functions.items():
                with self.subTest(module=name, function=function):
                    self.assertEqual(parameters(getattr(module, function)), wanted)
                    self.assertEqual(getattr(module, function).__module__, module.__name__)

    def test_one_round_is_meant_where_none_is_named(self):
        for name, functions in FUNCTIONS.items():
            module = importlib.import_module(f"filledrows.{name}")
            for function, wanted in functions.items():
                if wanted.endswith("rounds"):
                    told = inspect.signature(getattr(module, function)).parameters["rounds"]
                    self.assertEqual(told.default, 1)

    def test_the_methods_of_each_class(self):
        for (name, title), methods in CLASSES.items():
            module = importlib.import_module(f"filledrows.{name}")
            found = getattr(module, title)
            self.assertEqual(found.__module__, module.__name__)
            for method, wanted in methods.items():
                with self.subTest(title=title, method=method):
                    self.assertIn(method, vars(found))
                    self.assertEqual(parameters(getattr(found, method)), wanted)
            for attribute in PROPERTIES[name, title]:
                self.assertIsInstance(vars(found)[attribute], property)

    def test_each_module_needs_only_those_before_it(self):
        order = list(FUNCTIONS)
        for place, module in enumerate(order):
            with self.subTest(module):
                behind = set(order[place:])
                self.assertEqual(needed(module) & behind, set())

    def test_the_folder_holds_nothing_but_python_files(self):
        names = [path.name for path in FOLDER.iterdir() if path.name != "__pycache__"]
        self.assertTrue(all(name.endswith(".py") for name in names), names)
        self.assertIn("__init__.py", names)

    def test_objects_are_equal_to_no_value_of_another_class(self):
        program, book = Program(("clear",)), Book()
        for one, other in ((program, book), (book, program), (program, ("clear",)), (book, ()),
                           (program, "clear"), (book, None), (program, 0), (book, [])):
            self.assertIs(one == other, False)
            self.assertIs(one != other, True)

    def test_every_object_is_true(self):
        book = Book()
        self.assertTrue(book)
        self.assertTrue(book.trial())
        self.assertTrue(Program(("clear",)))


class Together(unittest.TestCase):
    """One after another, as a user would go."""

    def test_from_a_program_to_its_certificate(self):
        program = Program.read("look line back 1 own\nlook line ahead 1 own")
        claim, certificate = certify_never(program, "filling", "behind")
        self.assertEqual(claim[0], "can")
        self.assertIs(accepts(claim, certificate), True)
        mended = program.changed(1, "look row ahead 1 own")
        claim, certificate = certify_never(mended, "filling", "behind")
        self.assertEqual(claim[0], "never")
        self.assertIs(accepts(claim, certificate), True)
        book = Book()
        book["mended"] = mended
        book.wish(("never", "mended", "filling", "behind", 1))
        book["program"] = program
        self.assertIsNotNone(certify_unlike(program, mended, "behind"))
        self.assertIsNone(certify_unlike(program, mended, "front"))
        self.assertIsNone(certify_more(mended, "behind"))
        self.assertEqual(certify_ever(mended, "filling", "behind")[0][0], "ever")
        self.assertEqual(book.names, ("mended", "program"))


if __name__ == "__main__":
    unittest.main()
