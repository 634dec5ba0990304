"""Names, things, sets and forms [4]."""

import unittest

from readtell.forms import is_bare, is_form, is_name, is_thing
from tests.asking import OTHER_KINDS, Asking, nested

SIGNS = "\n" + "".join(chr(code) for code in range(32, 127) if code != 37)
NO_SIGNS = [chr(code) for code in range(300) if chr(code) not in SIGNS] + ["\u2028", "\u0431", "\uff41", "\ud800"]
LETTERS = "abcdefghijklmnopqrstuvwxyz"
NUMBER = ("number",)

# A form of each word.
FORMS = (
    ("text", "a"), ("text", SIGNS), ("skip", NUMBER), ("sign", "a"), ("sign", SIGNS), ("word", "ab"),
    NUMBER, ("pick", (("a", "x"),)), ("pick", (("a", 0), ("b", 1), ("cd", ""), ("ce", "1"))),
    ("spelt", ("sign", "ab")), ("spelt", ("pick", (("aa", "a"), ("ab", "\n")))),
    ("row", ()), ("row", (NUMBER, ("text", ","), NUMBER)), ("either", (("a", NUMBER),)),
    ("either", (("b", ("text", "x")), ("a", NUMBER), ("abcdefgh", ("row", ())))),
    ("again", NUMBER, None), ("again", NUMBER, ("text", ",")), ("again", NUMBER, ("skip", NUMBER)),
    ("again", ("text", "a"), None), ("counted", ":", NUMBER), ("counted", "1", ("text", "a")),
    ("turned", NUMBER, ((0, 1),)), ("turned", NUMBER, (((), "a"), ((0,), ("0",)), ("", (("",),)))),
    ("named", "a"), ("named", "abcdefgh"),
)

# What breaks a condition, one each.
NO_FORMS = (
    ("text", ""), ("text", "\t"), ("text", "a" + chr(37)), ("text", 1), ("text", None), ("text", ("a",)),
    ("text", b"a"),
    ("skip", "a"), ("skip", None), ("skip", ()), ("skip", ("text", "")),
    ("sign", ""), ("sign", "ba"), ("sign", "aa"), ("sign", "abb"), ("sign", "acb"), ("sign", "a\u00e4"),
    ("sign", "\ta"),
    ("sign", ("a", "b")), ("sign", 1), ("sign", None), ("sign", ["a"]),
    ("word", ""), ("word", "ba"), ("word", "aa"), ("word", "a\x7f"), ("word", ("a",)), ("word", 0),
    ("pick", ()), ("pick", (("a", "x"), ("ab", "y"))), ("pick", (("ab", "x"), ("b", 1), ("a", "y"))),
    ("pick", (("a", "x"), ("a", "y"))), ("pick", (("a", 1), ("aa", 2), ("ab", 3))),
    ("pick", (("a", "x"), ("b", "x"))), ("pick", (("a", 1), ("b", 2), ("c", 1))),
    ("pick", (("a", ("x",)),)), ("pick", (("a", ()),)), ("pick", (("a", -1),)), ("pick", (("a", True),)),
    ("pick", (("a", 0), ("b", False))), ("pick", (("a", None),)), ("pick", (("a", "\t"),)), ("pick", (("", "x"),)),
    ("pick", (("\t", "x"),)), ("pick", ((1, "x"),)), ("pick", (("a",),)), ("pick", (("a", "x", "y"),)),
    ("pick", (["a", "x"],)), ("pick", [("a", "x")]), ("pick", ("ab",)), ("pick", {"a": "x"}), ("pick", None),
    ("pick", (("a", 1.0),)), ("pick", (("a", []),)), ("pick", (("a", "x"), None)),
    ("spelt", ("word", "ab")), ("spelt", NUMBER), ("spelt", ("text", "a")), ("spelt", ("named", "a")),
    ("spelt", ("row", ())), ("spelt", ("pick", (("a", "x"), ("b", "xy")))), ("spelt", ("pick", (("a", ""),))),
    ("spelt", ("pick", (("a", "x"), ("b", 1)))), ("spelt", ("sign", "")), ("spelt", ("pick", ())),
    ("spelt", "ab"), ("spelt", None), ("spelt", ["sign", "ab"]), ("spelt", ("pick", (("a", "x"), ("ab", "y")))),
    ("spelt", ("spelt", ("sign", "a"))), ("spelt", ("skip", ("sign", "a"))),
    ("row", NUMBER), ("row", [NUMBER]), ("row", (NUMBER, None)), ("row", (NUMBER, ("text", ""))), ("row", ("a",)),
    ("row", None), ("row", "text"), ("row", ((),)), ("row", 0),
    ("either", ()), ("either", (("a", NUMBER), ("a", ("text", "x")))),
    ("either", (("a", NUMBER), ("b", NUMBER), ("a", NUMBER))), ("either", (("", NUMBER),)),
    ("either", (("A", NUMBER),)), ("either", (("abcdefghi", NUMBER),)), ("either", ((1, NUMBER),)),
    ("either", ((None, NUMBER),)), ("either", (("a",),)), ("either", (("a", NUMBER, NUMBER),)),
    ("either", (["a", NUMBER],)), ("either", [("a", NUMBER)]), ("either", (("a", None),)),
    ("either", (("a", NUMBER), ("b", ("text", "")))), ("either", None), ("either", ("ab",)),
    ("either", ((["a"], NUMBER),)),
    ("again", NUMBER, NUMBER), ("again", NUMBER, ("row", ())), ("again", NUMBER, ("named", "a")),
    ("again", NUMBER, ("sign", "a")), ("again", NUMBER, ("text", "")), ("again", NUMBER, ("skip", ("text", ""))),
    ("again", NUMBER, "a"), ("again", NUMBER, False), ("again", NUMBER, ()), ("again", None, None),
    ("again", NUMBER, ("turned", ("text", "a"), (((), 1),))), ("again", ("text", ""), None),
    ("again", NUMBER, ["text", "a"]),
    ("counted", "", NUMBER), ("counted", None, NUMBER), ("counted", NUMBER, ":"), ("counted", "\t", NUMBER),
    ("counted", 1, NUMBER), ("counted", ":", None), ("counted", ":", ("sign", "ba")),
    ("turned", NUMBER, ()), ("turned", NUMBER, ((0, 0),)), ("turned", NUMBER, ((0, 1), (2, 0))),
    ("turned", NUMBER, ((0, 1), (1, 2))), ("turned", NUMBER, ((0, 1), (2, 3), (4, 3))),
    ("turned", NUMBER, ((((1,), 2), 3), (4, ((1,), 2)))), ("turned", NUMBER, ((0, 1), (2,))),
    ("turned", NUMBER, ((0, 1, 2),)), ("turned", NUMBER, ([0, 1],)), ("turned", NUMBER, [(0, 1)]),
    ("turned", NUMBER, ((0, -1),)), ("turned", NUMBER, ((0, True),)), ("turned", NUMBER, ((0, None),)),
    ("turned", NUMBER, ((0, ("\t",)),)), ("turned", NUMBER, (0, 1)), ("turned", NUMBER, None),
    ("turned", None, ((0, 1),)), ("turned", ("text", ""), ((0, 1),)), ("turned", NUMBER, ("ab",)),
    ("turned", ((0, 1),), NUMBER),
    ("named", ""), ("named", "A"), ("named", "abcdefghi"), ("named", "a1"), ("named", 1), ("named", None),
    ("named", ("a",)), ("named", ["a"]),
    ("texts", "a"), ("Text", "a"), ("", "a"), ("left", ("a",)), ("due", 1, "a", NUMBER), ("list", NUMBER),
    ("named",), (), ("text",), (NUMBER,), (("text",), "a"), (1, "a"), (None, "a"), (["text"], "a"), ({}, "a"),
)


class Names(Asking):
    def test_names(self):
        for name in ("a", "z", "ab", "name", "abcdefgh", "zzzzzzzz", *LETTERS):
            self.yes(is_name, name)

    def test_lengths(self):
        for name in ("", "abcdefghi", LETTERS):
            self.no(is_name, name)

    def test_other_signs_at_each_place(self):
        for sign in [sign for sign in SIGNS if sign not in LETTERS] + NO_SIGNS:
            for at in range(8):
                self.no(is_name, "abcdefg"[:at] + sign + "abcdefg"[at:])
            self.no(is_name, sign)

    def test_other_kinds(self):
        for x in OTHER_KINDS + (0, 1, ("a",), (), ["a"], {"a": "a"}, b"abc", ("named", "a")):
            self.no(is_name, x)


class Things(Asking):
    def test_things(self):
        for thing in ("", "a", SIGNS, "\n", "~", " ", 0, 1, 10 ** 200, (), ("",), (0, "a", (1, ()), ((("~",),),))):
            self.yes(is_thing, thing)

    def test_each_sign(self):
        for sign in SIGNS:
            self.yes(is_thing, sign)
            self.yes(is_thing, "a" + sign + "b")

    def test_no_signs(self):
        for letter in NO_SIGNS:
            for text in (letter, "a" + letter, letter + "a", "a" + letter + "a"):
                self.no(is_thing, text)

    def test_other_kinds_at_any_depth(self):
        for x in OTHER_KINDS:
            for deep in (0, 1, 2, 7, 79):
                self.no(is_thing, nested(x, deep))
            self.no(is_thing, (0, ("a", (x, 1)), 2))
            self.no(is_thing, (0, ("a", (1, x))))
            self.no(is_thing, (x, 0))

    def test_eighty_deep(self):
        for deep in (1, 2, 40, 79, 80, 100):
            self.yes(is_thing, nested("a", deep))
            self.yes(is_thing, nested((), deep))
            self.yes(is_thing, (0, nested((0, "b"), deep), "c"))

    def test_forms_are_things_but_for_none(self):
        self.yes(is_thing, ("text", "a"))
        self.no(is_thing, ("again", ("number",), None))


class Forms(Asking):
    def test_a_form_of_each_word(self):
        for form in FORMS:
            self.yes(is_form, form)

    def test_each_condition_broken(self):
        for x in NO_FORMS:
            self.no(is_form, x)

    def test_each_sign_in_a_set(self):
        for sign in SIGNS:
            self.yes(is_form, ("sign", sign))
            self.yes(is_form, ("text", sign))
        for letter in NO_SIGNS:
            self.no(is_form, ("sign", letter))
            self.no(is_form, ("word", letter))
            self.no(is_form, ("text", "a" + letter))

    def test_a_thing_more_or_fewer(self):
        for form in FORMS:
            self.no(is_form, form[:-1])
            self.no(is_form, form[1:])
            for more in ("a", None, NUMBER, ()):
                self.no(is_form, form + (more,))

    def test_lists_in_the_place_of_tuples(self):
        for form in FORMS:
            self.no(is_form, list(form))
            for at in range(len(form)):
                if isinstance(form[at], tuple):
                    self.no(is_form, form[:at] + (list(form[at]),) + form[at + 1:])

    def test_within_each_word(self):
        for form in FORMS:
            for outer in within(form):
                self.yes(is_form, outer)
        for x in NO_FORMS + OTHER_KINDS:
            for outer in within(x):
                self.no(is_form, outer)

    def test_at_a_depth(self):
        for x in NO_FORMS:
            deep = x
            for number in range(12):
                deep = within(deep)[number % 7]
            self.no(is_form, deep)

    def test_other_kinds(self):
        for x in OTHER_KINDS + ("text", "number", 0, 1, nested("text", 80), nested(NUMBER, 80), ("text", Asking)):
            self.no(is_form, x)

    def test_other_kinds_at_each_place(self):
        for form in FORMS:
            for x in OTHER_KINDS:
                for at in range(len(form)):
                    if form[0] != "again" or at != 2 or x is not None:
                        self.no(is_form, form[:at] + (x,) + form[at + 1:])

    def test_as_large_as_books_may_be(self):
        pairs = tuple(("t" + chr(97 + at // 26) + chr(97 + at % 26), at) for at in range(120))
        self.yes(is_form, ("pick", pairs))
        self.no(is_form, ("pick", pairs + (("tdq", 7),)))
        self.no(is_form, ("pick", pairs + (("t", 1000),)))
        self.yes(is_form, ("row", (NUMBER,) * 400))
        self.yes(is_form, ("turned", NUMBER, tuple((2 * at, 2 * at + 1) for at in range(12))))
        deep = NUMBER
        for _ in range(40):
            deep = ("row", (("again", deep, None),))
        self.yes(is_form, deep)
        self.no(is_form, ("skip", nested(deep, 20)))
        skips = NUMBER
        for _ in range(79):
            skips = ("skip", skips)
        self.yes(is_form, skips)


class Bare(Asking):
    def test_just_texts_and_skips(self):
        for form in FORMS:
            self.assertIs(self.told(is_bare, form), form[0] in ("text", "skip"))

    def test_what_is_no_form(self):
        for x in OTHER_KINDS + (("text", ""), ("skip", None), ("text",), "text", ()):
            self.no(is_bare, x)

    def test_others_of_bare_ones(self):
        bare = ("text", "a")
        for form in (("row", ()), ("row", (bare,)), ("again", bare, None), ("either", (("a", bare),)),
                     ("counted", ":", bare), ("named", "a")):
            self.no(is_bare, form)
        self.yes(is_bare, ("skip", ("skip", ("named", "a"))))


def within(x):
    """Forms in which x stands as a form."""
    return (
        ("skip", x), ("row", (NUMBER, x, NUMBER)), ("either", (("a", NUMBER), ("b", x))), ("again", x, None),
        ("counted", ":", x), ("turned", x, ((0, 1),)), ("again", NUMBER, ("skip", x)), ("row", (x,)),
        ("either", (("a", x), ("b", NUMBER))), ("again", x, ("text", "a")),
    )


if __name__ == "__main__":
    unittest.main()
