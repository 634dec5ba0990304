"""The interface: each name is defined in the file under which it is listed, with the arguments told."""

import ast
import importlib
import inspect
import pathlib
import unittest

import readtell
from readtell.desk import Desk
from readtell.errors import FormError

# File, name, arguments.
FUNCTIONS = (
    ("forms", "is_bare", "form"), ("books", "form_of", "book name"), ("books", "names_met", "book"),
    ("worths", "is_worth", "book name thing"), ("walking", "walked", "book text way"),
    ("walking", "shows_read", "book text way worth"), ("leasts", "least_text", "book name"), ("leasts", "endless", "book"),
    ("looking", "verdict", "book"), ("apart", "shows_apart", "book thing"), ("rests", "begun", "book"),
    ("rests", "may_end", "book rest"), ("rests", "wants", "book rest"), ("rests", "behind", "book rest sign"),
    ("reading", "read", "book text"), ("reading", "way_of", "book text"), ("going", "goes_on", "book text"),
    ("going", "mends", "book text"), ("telling", "tell", "book worth"), ("telling", "told_book", "book"),
    ("counting", "how_many", "book text most"), ("numbering", "text_at", "book k most"),
    ("numbering", "number_of", "book text"), ("spans", "spans", "book text"), ("keeping", "put", "book text worth"),
    ("keeping", "led", "one other text worth"), ("alikepapers", "shows_alike", "one other thing"),
    ("holding", "held", "one other most"), ("alikes", "alike_names", "book"), ("shortening", "shorter", "book"),
    ("joining", "read_joined", "one other text"), ("joining", "tell_joined", "one other worth"),
    ("thingtexts", "show_thing", "thing"), ("thingtexts", "read_thing", "text"), ("booktexts", "show_book", "book"),
    ("booktexts", "read_book", "text"), ("plainbook", "plain_book", ""), ("plainbook", "as_worth", "book"),
    ("plainbook", "of_worth", "worth"),
)
TEXT_ERRORS = ("NoWorth", "NoText", "NoBook", "NotLet", "NoLine", "NoKept")


class Interface(unittest.TestCase):
    def test_functions(self):
        for file, name, arguments in FUNCTIONS:
            function = getattr(importlib.import_module("readtell." + file), name)
            self.assertTrue(inspect.isfunction(function), name)
            self.assertEqual(function.__module__, "readtell." + file)
            self.assertEqual(list(inspect.signature(function).parameters), arguments.split())

    def test_of_anything_alone(self):
        for file, name in (("forms", "is_name"), ("forms", "is_thing"), ("forms", "is_form"), ("books", "is_book")):
            function = getattr(importlib.import_module("readtell." + file), name)
            self.assertEqual(function.__module__, "readtell." + file)
            self.assertEqual(len(inspect.signature(function).parameters), 1)

    def test_the_desk(self):
        self.assertEqual(Desk.__module__, "readtell.desk")
        self.assertIn("say", vars(Desk))
        self.assertEqual(list(inspect.signature(Desk).parameters), ["text"])
        self.assertEqual(list(inspect.signature(Desk.say).parameters), ["self", "line"])

    def test_refusals(self):
        errors = importlib.import_module("readtell.errors")
        self.assertEqual(FormError.__bases__, (ValueError,))
        for name in TEXT_ERRORS + ("Fails", "FailsWithin"):
            self.assertEqual(getattr(errors, name).__bases__, (FormError,))
            self.assertEqual(getattr(errors, name).__module__, "readtell.errors")
        for name in TEXT_ERRORS:
            self.assertEqual(str(getattr(errors, name)("told")), "told")
        failing = errors.Fails(3, "ab", True)
        self.assertEqual((failing.place, failing.wants, failing.end), (3, "ab", True))
        failing = errors.FailsWithin(3, 1, "ab", False)
        self.assertEqual((failing.place, failing.inner, failing.wants, failing.end), (3, 1, "ab", False))


class Files(unittest.TestCase):
    """What can be seen of the files of the package alone."""

    def test_what_is_imported(self):
        folder = pathlib.Path(readtell.__file__).parent
        names = {path.stem for path in folder.glob("*.py")}
        self.assertLessEqual(len(names), 100)
        for path in folder.glob("*.py"):
            tree = ast.parse(path.read_text())
            for node in ast.walk(tree):
                self.assertNotIsInstance(node, ast.Import)
                if isinstance(node, ast.ImportFrom):
                    package, file = node.module.split(".")
                    self.assertEqual(package, "readtell")
                    self.assertIn(file, names)

    def test_sizes(self):
        for path in pathlib.Path(readtell.__file__).parent.glob("*.py"):
            lines = path.read_text().split("\n")
            self.assertLess(len(lines), 401)
            self.assertLess(max(len(line) for line in lines), 121)
            for node in ast.walk(ast.parse("\n".join(lines))):
                if isinstance(node, ast.FunctionDef):
                    self.assertLess(node.end_lineno - node.lineno, 40, node.name)


if __name__ == "__main__":
    unittest.main()
