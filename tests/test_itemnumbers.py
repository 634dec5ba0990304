"""Numbers for items: the same for the same item, unlike for unlike ones."""

import unittest

from readtell.itemnumbers import ItemNumbers
from tests.samples import (
    A, AB, B, COMMA, LET_BOOKS, NUMBER, SPELT, SPELT_PICK, again, counted, either, row, skip, text,
)
from tests.test_forms import FORMS

ITEMS = (
    text("ab"), text("a"), ("sign", "ab"), ("word", "ab"), ("left", ("ab",)), ("left", ("a", "b")), A, B,
    ("pick", (("ab", "x"),)), ("pick", (("ab", "y"),)), ("pick", (("a", 1),)),
    ("pick", (("a", "1"),)), SPELT, SPELT_PICK,
    skip(AB), skip(COMMA), skip(skip(AB)), row(), row(AB), row(AB, AB), row(row(AB, AB)), row(row(AB), AB),
    row(AB, COMMA), row(COMMA, AB), ("either", (("x", AB),)), ("either", (("y", AB),)), ("either", (("x", COMMA),)),
    ("either", (("x", AB), ("y", COMMA))), ("either", (("y", COMMA), ("x", AB))), again(AB), again(COMMA),
    again(AB, COMMA), again(AB, skip(COMMA)), again(AB, text(";")), counted(":", AB), counted(";", AB),
    counted(":", COMMA),
    ("due", 1, ":", AB), ("due", 2, ":", AB), ("due", 1, ";", AB), ("due", 1, ":", COMMA),
    ("turned", NUMBER, ((0, 1),)), ("turned", NUMBER, ((0, 2),)), ("turned", row(NUMBER), (((0,), (1,)),)),
)


def copied(x):
    """The same item in tuples of its own."""
    return tuple([copied(part) for part in x]) if isinstance(x, tuple) else x


class Numbers(unittest.TestCase):
    def test_unlike_items(self):
        numbers = ItemNumbers()
        forms = [form for book in LET_BOOKS for _, form in book[1]]
        items = list(dict.fromkeys(list(ITEMS) + list(FORMS) + forms))
        found = [numbers.number(item) for item in items]
        self.assertEqual(len(set(found)), len(items))
        self.assertEqual([numbers.number(copied(item)) for item in items], found)

    def test_unlike_within_others(self):
        numbers = ItemNumbers()
        for outer in (skip, row, either, again, lambda item: counted(":", item), lambda item: row(COMMA, item),
                      lambda item: ("due", 3, ":", item), lambda item: ("turned", item, ((0, 1),)),
                      lambda item: either(COMMA, row(skip(item)))):
            found = [numbers.number(outer(item)) for item in ITEMS]
            self.assertEqual(len(set(found)), len(ITEMS))
            self.assertEqual([numbers.number(outer(copied(item))) for item in ITEMS], found)


if __name__ == "__main__":
    unittest.main()
