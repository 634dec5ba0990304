"""Least texts, and names without a text [9]."""

import unittest

from readtell.books import is_book
from readtell.leasts import endless, least_text
from tests.asking import Asking
from tests.test_books import A, book
from tests.test_forms import NUMBER

B = ("named", "b")
C = ("named", "c")
COMMA = ("text", ",")
AB = ("sign", "ab")
EMPTY = ("row", ())

# Forms and their least texts.
LEASTS = (
    (("text", "ba"), "ba"), (("skip", ("text", "ba")), "ba"), (("skip", NUMBER), "0"), (("sign", "bc"), "b"),
    (("sign", "\n ~"), "\n"), (("word", "bc"), "b"), (NUMBER, "0"),
    (("pick", (("b", 1),)), "b"), (("pick", (("c", 1), ("b", 2), ("d", 0))), "b"),
    (("pick", (("aa", 1), ("b", 2))), "b"),
    (("pick", (("bb", 1), ("ba", 2), ("aaa", 3))), "ba"), (("spelt", AB), ""),
    (("spelt", ("pick", (("a", "b"),))), ""),
    (EMPTY, ""), (("row", (("sign", "bc"), COMMA, NUMBER)), "b,0"), (("row", (EMPTY, ("row", (COMMA,)), EMPTY)), ","),
    (("either", (("p", ("text", "b")),)), "b"), (("either", (("p", ("text", "c")), ("q", ("text", "b")))), "b"),
    (("either", (("p", ("text", "aa")), ("q", ("text", "b")), ("r", ("text", "ab")))), "b"),
    (("either", (("p", ("text", "ab")), ("q", ("text", "aab")), ("r", ("text", "b")), ("s", ("text", "a")))), "a"),
    (("either", (("p", NUMBER), ("q", EMPTY), ("r", COMMA))), ""), (("again", COMMA, None), ""),
    (("again", AB, COMMA), ""),
    (("counted", ":", AB), "0:"), (("counted", "0x", EMPTY), "00x"), (("counted", "/", ("text", "abc")), "0/"),
    (("turned", NUMBER, ((0, 1),)), "0"), (("turned", ("sign", "ab"), (("a", "b"),)), "a"),
    (("row", (("word", "yz"), ("either", (("p", ("text", "bb")), ("q", ("row", (COMMA, ("text", "a")))))))), "y,a"),
)

# Forms that have texts just where b has.
IN_NEED = (
    B, ("skip", B), ("row", (B,)), ("row", (NUMBER, B)), ("row", (B, COMMA)), ("either", (("x", B),)),
    ("either", (("x", B), ("y", ("row", (COMMA, B))))), ("row", (("either", (("x", ("skip", B)),)),)),
)

# Forms that have texts, whether b has or not.
NOT_IN_NEED = (
    ("again", B, None), ("again", B, COMMA), ("again", COMMA, ("skip", B)), ("counted", ":", B),
    ("either", (("x", B), ("y", COMMA))), ("row", (("again", ("row", (COMMA, B)), None), NUMBER)),
)


class LeastTexts(Asking):
    def test_each_word(self):
        for form, least in LEASTS:
            self.assertTrue(is_book(book(a=form)))
            self.same(least, least_text, book(a=form), "a")

    def test_by_names(self):
        for form, least in LEASTS:
            asked = book(a=COMMA, b=form, c=B, d=("row", (C, A, C)),
                    e=("either", (("x", ("text", "~" * 12)), ("y", ("named", "d")))))
            self.same(least, least_text, asked, "b")
            self.same(least, least_text, asked, "c")
            self.same(least + "," + least, least_text, asked, "d")
            self.same(least + "," + least, least_text, asked, "e")
            self.same(",", least_text, asked, "a")

    def test_the_shorter_one_first(self):
        self.same("b", least_text, book(a=("either", (("x", ("text", "aa")), ("y", B))), b=("text", "b")), "a")
        self.same("~", least_text, book(a=("either", (("x", B), ("y", ("text", "~")))), b=("text", "  ")), "a")
        self.same("ab", least_text, book(a=("either", (("x", B), ("y", ("text", "b ")))), b=("text", "ab")), "a")
        # Of the two ways round, that with fewer signs wins, though it begins with a greater one.
        asked = book(a=("either", (("x", ("row", (B, B, B))), ("y", ("text", "zz")))), b=("text", "a"))
        self.same("zz", least_text, asked, "a")

    def test_rings_with_a_way_out(self):
        self.same("b", least_text, book(a=("either", (("x", ("row", (("text", "a"), A))), ("y", ("text", "b"))))),
                "a")
        self.same("", least_text, book(a=("either", (("x", A), ("y", EMPTY)))), "a")
        self.same("c", least_text, book(a=("either", (("x", A), ("y", ("text", "c"))))), "a")
        asked = book(a=("either", (("x", B), ("y", ("text", "ddddd")))),
                b=("either", (("x", A), ("y", ("row", (C, C))))),
                     c=("either", (("x", ("text", "cc")), ("y", ("row", (A, B))))))
        self.same("cccc", least_text, asked, "a")
        self.same("cccc", least_text, asked, "b")
        self.same("cc", least_text, asked, "c")
        asked = book(a=("row", (("text", "("), ("again", A, COMMA), ("text", ")"))))
        self.same("()", least_text, asked, "a")

    def test_a_later_name_makes_it_less(self):
        asked = book(a=("either", (("x", ("text", "zzzz")), ("y", B))),
                b=("either", (("x", ("text", "yyy")), ("y", C))),
                     c=("either", (("x", ("text", "xx")), ("y", ("named", "d")))), d=("text", "w"))
        for name in "abcd":
            self.same("w", least_text, asked, name)

    def test_none_where_there_is_none(self):
        for form in IN_NEED:
            for stuck in (B, ("row", (NUMBER, B)), ("skip", B), ("either", (("x", B),)), ("row", (C,))):
                asked = book(a=form, b=stuck, c=B)
                self.assertTrue(is_book(asked))
                self.same(None, least_text, asked, "a")
                self.same(None, least_text, asked, "b")
        for form in NOT_IN_NEED:
            self.assertIsNot(self.told(least_text, book(a=form, b=B), "a"), None)
            self.same(None, least_text, book(a=form, b=B), "b")

    def test_names_not_met(self):
        asked = book(a=COMMA, b=("row", (A, NUMBER, C)), c=("sign", "xy"), d=("named", "d"))
        self.same(",0x", least_text, asked, "b")
        self.same(None, least_text, asked, "d")

    def test_long_ones(self):
        asked = book(a=("row", (B,) * 12), b=("row", (C,) * 13), c=("text", "abcdefghijkl"))
        self.same("abcdefghijkl" * 156, least_text, asked, "a")

    def test_long_ones_that_are_none_in_the_end(self):
        # Each name by itself makes a long text of the next one's, but a short one is come to late.
        names = "abcdefghijklmnop"
        rows = [(name, ("row", (("named", behind),) * 15)) for name, behind in zip(names[:7], names[1:])]
        rows += [("h", ("either", (("x", ("text", "x" * 12)), ("y", ("named", "i")))))]
        rows += [(name, ("row", (("named", behind),) * 15)) for name,
                behind in zip(names[8:], names[9:])] + [("p", EMPTY)]
        self.same("", least_text, ("a", tuple(rows)), "a")


class Endless(Asking):
    def test_none(self):
        for form, _ in LEASTS:
            self.same((), endless, book(a=form))
        for form in IN_NEED + NOT_IN_NEED:
            self.same((), endless, book(a=form, b=NUMBER))

    def test_just_the_names_without_a_text(self):
        for form in IN_NEED:
            self.same(("a", "b"), endless, book(a=form, b=B))
        for form in NOT_IN_NEED:
            self.same(("b",), endless, book(a=form, b=B))

    def test_rising(self):
        asked = ("d", (("a", NUMBER), ("aa", ("named", "z")), ("b", B),
                ("d", ("row", (("named", "z"), B, ("named", "aa")))),
                       ("e", ("named", "e")), ("z", ("row", (("named", "aa"), A)))))
        self.same(("aa", "b", "d", "z"), endless, asked)

    def test_names_not_met_are_not_among_them(self):
        self.same((), endless, book(a=NUMBER, b=B))
        self.same(("c",), endless, book(a=("again", C, None), b=B, c=("row", (C,))))
        self.same(("a",), endless, book(a=A, b=B, c=NUMBER))

    def test_rings_with_a_way_out(self):
        self.same((), endless, book(a=("either", (("x", B), ("y", COMMA))), b=("row", (COMMA, A))))
        self.same(("b", "c"), endless, book(a=("either", (("x", B), ("y", COMMA))), b=("row", (A, C)),
                c=("row", (B, A))))


if __name__ == "__main__":
    unittest.main()
