"""The interface: each name is defined in the file under which it is listed, with the arguments told."""

import importlib
import inspect
import unittest

# File, name, arguments, of what there is so far.
FUNCTIONS = (
    ("forms", "is_bare", "form"), ("books", "form_of", "book name"), ("books", "names_met", "book"),
    ("worths", "is_worth", "book name thing"), ("walking", "walked", "book text way"),
    ("walking", "shows_read", "book text way worth"), ("leasts", "least_text", "book name"), ("leasts", "endless", "book"),
    ("looking", "verdict", "book"), ("apart", "shows_apart", "book thing"), ("rests", "begun", "book"),
    ("rests", "may_end", "book rest"), ("rests", "wants", "book rest"), ("rests", "behind", "book rest sign"),
    ("reading", "read", "book text"), ("reading", "way_of", "book text"), ("going", "goes_on", "book text"),
    ("going", "mends", "book text"), ("telling", "tell", "book worth"), ("telling", "told_book", "book"),
    ("counting", "how_many", "book text most"), ("numbering", "text_at", "book k most"),
    ("numbering", "number_of", "book text"), ("spans", "spans", "book text"), ("keeping", "put", "book text worth"),
    ("keeping", "led", "one other text worth"),
)


class Interface(unittest.TestCase):
    def test_functions(self):
        for file, name, arguments in FUNCTIONS:
            function = getattr(importlib.import_module("readtell." + file), name)
            self.assertTrue(inspect.isfunction(function), name)
            self.assertEqual(function.__module__, "readtell." + file)
            self.assertEqual(list(inspect.signature(function).parameters), arguments.split())

    def test_of_anything_alone(self):
        for file, name in (("forms", "is_name"), ("forms", "is_thing"), ("forms", "is_form"), ("books", "is_book")):
            function = getattr(importlib.import_module("readtell." + file), name)
            self.assertEqual(function.__module__, "readtell." + file)
            self.assertEqual(len(inspect.signature(function).parameters), 1)


if __name__ == "__main__":
    unittest.main()
