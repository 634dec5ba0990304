"""Rests and their items [12]."""

import unittest

from readtell.books import is_book
from readtell.looking import verdict
from readtell.reading import read
from readtell.rests import begun, behind, may_end, wants
from tests import words
from tests.asking import Asking
from tests.samples import (
    A, AB, B, BRACKETS, COMMA, COUNTS, EMPTY, LET_BOOKS, MAYBE, NUMBER, SPELT, SPELT_PICK, SUMS, TOLD, VALUES,
    WORD, again, book, counted, either, row, skip, text,
)
from tests.test_forms import SIGNS

FIGURES = "0123456789"
MORE_FIGURES = ("spelt", ("sign", FIGURES))
END = text(";")
ALIKE = ("pick", (("ac", 1), ("b", "b"), ("abc", 3), ("abb", 4)))
AGAIN_BEHIND = again(row(COMMA, NUMBER))

# Form, the texts by which it may be begun, what may still come of it then.
BEHIND = (
    (text("a"), "a", ()),
    (text("abc"), "a", (text("bc"),)),
    (text("abc"), "ab", (text("c"),)),
    (text("abc"), "abc", ()),
    (AB, "b", ()),
    (WORD, "b", (SPELT,)),
    (WORD, "ba", (SPELT,)),
    (NUMBER, "0", ()),
    (NUMBER, "7", (MORE_FIGURES,)),
    (NUMBER, "70", (MORE_FIGURES,)),
    (ALIKE, "b", ()),
    (ALIKE, "a", (("left", ("bb", "bc", "c")),)),
    (ALIKE, "ab", (("left", ("b", "c")),)),
    (ALIKE, "abc", ()),
    (ALIKE, "ac", ()),
    (("pick", (("x~", "p"), ("x!y", "q"), ("x b", ""))), "x", (("left", (" b", "!y", "~")),)),
    (SPELT, "a", (SPELT,)),
    (SPELT, "ab", (SPELT,)),
    (SPELT_PICK, "a", (("left", ("1",)), SPELT_PICK)),
    (SPELT_PICK, "a1", (SPELT_PICK,)),
    (row(text("ab"), NUMBER, EMPTY), "a", (text("b"), NUMBER, EMPTY)),
    (row(text("ab"), NUMBER, EMPTY), "ab", (NUMBER, EMPTY)),
    (row(MAYBE, again(AB), NUMBER), ",", (again(AB), NUMBER)),
    (row(MAYBE, again(AB), NUMBER), "b", (again(AB), NUMBER)),
    (row(MAYBE, again(AB), NUMBER), "8", (MORE_FIGURES,)),
    (row(row(), row(row(COMMA, AB), NUMBER), AB), ",", (AB, NUMBER, AB)),
    (either(NUMBER, text("ab"), row(COMMA, AB), EMPTY), "a", (text("b"),)),
    (either(NUMBER, text("ab"), row(COMMA, AB), EMPTY), ",", (AB,)),
    (either(NUMBER, text("ab"), row(COMMA, AB), EMPTY), "5", (MORE_FIGURES,)),
    (either(row(MAYBE, AB), NUMBER), "a", ()),
    (again(text("ab")), "a", (text("b"), again(text("ab")))),
    (again(AB), "b", (again(AB),)),
    (again(NUMBER, COMMA), "0", (AGAIN_BEHIND,)),
    (again(NUMBER, COMMA), "0,", (NUMBER, AGAIN_BEHIND)),
    (again(NUMBER, COMMA), "0,1", (MORE_FIGURES, AGAIN_BEHIND)),
    (again(AB, skip(again(COMMA))), "a", (again(row(skip(again(COMMA)), AB)),)),
    (again(AB, skip(again(COMMA))), "a,", (again(COMMA), AB, again(row(skip(again(COMMA)), AB)))),
    (again(AB, skip(again(COMMA))), "ab", (again(row(skip(again(COMMA)), AB)),)),
    (counted("::", AB), "0", (text("::"),)),
    (counted("::", AB), "0:", (text(":"),)),
    (counted("::", AB), "3", (("due", 3, "::", AB),)),
    (counted("::", AB), "3:", (text(":"), AB, AB, AB)),
    (counted("::", AB), "3::a", (AB, AB)),
    (counted("::", AB), "20", (text("::"),) + (AB,) * 20),
    (counted(":", AB), "1:", (AB,)),
    (counted(":", AB), "10:a", (AB,) * 9),
    (counted(":", EMPTY), "99", (text(":"),) + (EMPTY,) * 99),
    (counted(":", counted("/", COMMA)), "2:1", (("due", 1, "/", COMMA), counted("/", COMMA))),
    (("turned", row(AB, NUMBER), ((("a", 1), ("b", 2)),)), "a", (NUMBER,)),
    (skip(row(AB, NUMBER)), "a", (NUMBER,)),
    (B, "(", (again(B, COMMA), text(")"))),
    (B, "((", (again(B, COMMA), text(")"), again(row(COMMA, B)), text(")"))),
    (B, "(()", (again(row(COMMA, B)), text(")"))),
)
NAMED = row(text("("), again(B, COMMA), text(")"))


class Rests(Asking):
    def along(self, asked, begin):
        """The rest behind this beginning, None where it is none."""
        rest = self.told(begun, asked)
        for sign in begin:
            rest = self.told(behind, asked, rest, sign)
            if rest is None:
                return None
        return rest

    def test_begun(self):
        self.same((("named", "a"),), begun, book(a=NUMBER))
        self.same((("named", "value"),), begun, VALUES)

    def test_behind_each_word(self):
        for form, begin, items in BEHIND:
            asked = book(a=form, b=NAMED)
            self.assertEqual(self.along(asked, begin), items, (form, begin))
            self.assertEqual(self.along(book(a=skip(("named", "c")), b=NAMED, c=row(form)), begin), items)

    def test_behind_with_more_to_come(self):
        for form, begin, items in BEHIND:
            asked = book(a=row(END, form, END), b=NAMED)
            if verdict(asked) == ("let",):
                self.assertEqual(self.along(asked, ";" + begin), items + (END,), (form, begin))
            asked = book(a=row(again(END), row(EMPTY, ("named", "c")), text("~"), NUMBER), b=NAMED, c=form)
            if verdict(asked) == ("let",):
                self.assertEqual(self.along(asked, begin), items + (text("~"), NUMBER), (form, begin))
                self.assertEqual(self.along(asked, ";;" + begin), items + (text("~"), NUMBER), (form, begin))

    def test_by_signs_with_which_none_begins(self):
        for form, begin, _ in BEHIND:
            asked = book(a=form, b=NAMED)
            table = dict(asked[1])
            rest = ((("named", "a")),)
            for sign in begin:
                for other in SIGNS:
                    self.assertEqual(behind(asked, rest, other), words.rest_behind(table, rest, other))
                    self.assertEqual(behind(asked, rest, other) is None, other not in wants(asked, rest))
                rest = behind(asked, rest, sign)
        for sign in SIGNS:
            self.same(None, behind, book(a=NUMBER), (), sign)
            self.same(None if sign != "," else (), behind, book(a=NUMBER), (COMMA,), sign)

    def test_picks_of_one_sign_and_of_more(self):
        asked = book(a=("pick", (("x", 1), ("yy", 2), ("zab", 3), ("zac", 4), ("zb", 5))))
        self.assertEqual(self.along(asked, "x"), ())
        self.assertEqual(self.along(asked, "y"), (("left", ("y",)),))
        self.assertEqual(self.along(asked, "yy"), ())
        self.assertEqual(self.along(asked, "z"), (("left", ("ab", "ac", "b")),))
        self.assertEqual(self.along(asked, "za"), (("left", ("b", "c")),))
        self.assertEqual(self.along(asked, "zac"), ())
        self.assertEqual(self.along(asked, "zb"), ())
        for begin in ("xx", "yx", "zc", "zz", "zad", "a", "zbb"):
            self.assertEqual(self.along(asked, begin), None)

    def test_counts(self):
        asked = book(a=counted(":", AB))
        for figure in FIGURES[1:]:
            due = (("due", int(figure), ":", AB),)
            self.same(due, behind, asked, (("named", "a"),), figure)
            self.same((AB,) * int(figure), behind, asked, due, ":")
            for more in FIGURES:
                self.same((text(":"),) + (AB,) * int(figure + more), behind, asked, due, more)
            for sign in "ab;a ":
                self.same(None, behind, asked, due, sign)
            self.same(FIGURES + ":", wants, asked, due)
            self.no(may_end, asked, due)
        self.assertEqual(self.along(asked, "00"), None)
        self.assertEqual(self.along(asked, "100"), None)
        self.assertEqual(self.along(asked, "0:"), ())
        self.assertEqual(self.along(asked, "0:a"), None)

    def test_choices_of_which_one_may_be_empty(self):
        asked = book(a=row(either(AB, EMPTY, skip(COMMA)), either(text("xy"), again(NUMBER, COMMA))))
        last = either(text("xy"), again(NUMBER, COMMA))
        for begin, items in (("a", (last,)), (",", (last,)), ("x", (text("y"),)), ("0", (AGAIN_BEHIND,))):
            self.assertEqual(self.along(asked, begin), items)
        self.same("!", wants, book(a=row(MAYBE, text("!"))), (MAYBE, text("!"))[1:])
        self.same("!,", wants, book(a=row(MAYBE, text("!"))), (MAYBE, text("!")))

    def test_may_end(self):
        asked = book(a=either(NUMBER, B), b=again(AB), c=COMMA, d=skip(B), e=counted(":", B))
        empties = (EMPTY, B, ("named", "a"), ("named", "d"), again(COMMA), again(AB, COMMA), SPELT, SPELT_PICK,
                   skip(B), MAYBE, either(NUMBER, row(B, B)), row(EMPTY, B), ("turned", B, ((("a",), ()),)))
        others = (COMMA, AB, WORD, NUMBER, ALIKE, ("left", ("a",)), ("due", 1, ":", B), counted(":", B),
                  ("named", "c"), ("named", "e"), row(B, COMMA, B), either(COMMA, NUMBER), skip(COMMA),
                  ("turned", NUMBER, ((0, 1),)))
        self.yes(may_end, asked, ())
        for empty in empties:
            self.yes(may_end, asked, (empty,))
            self.yes(may_end, asked, (B, empty, EMPTY))
            for other in others:
                self.no(may_end, asked, (other,))
                self.no(may_end, asked, (empty, other))
                self.no(may_end, asked, (other, empty))

    def test_wants(self):
        asked = book(a=NUMBER, b=row(MAYBE, NUMBER), c=B)
        for rest, signs in (
                ((), ""), ((COMMA,), ","), ((text("ba"),), "b"), ((("sign", SIGNS),), SIGNS), ((WORD,), "ab"),
                ((A,), FIGURES), ((B,), "," + FIGURES), ((ALIKE,), "ab"), ((("left", ("ba", "bb", "c")),), "bc"),
                ((("due", 3, "ab", AB),), FIGURES + "a"), ((SPELT_PICK, text("0")), "0ab"), ((EMPTY,), ""),
                ((EMPTY, EMPTY), ""), ((again(AB), SPELT, again(COMMA), EMPTY, NUMBER, END), "," + FIGURES + "ab"),
                ((again(AB, skip(again(END))), COMMA), ",ab"), ((either(END, EMPTY, AB), COMMA), ",;ab"),
                ((("named", "c"), COMMA), "," + FIGURES), ((counted(":", AB),), FIGURES)):
            self.same(signs, wants, asked, rest)

    def test_along_whole_texts(self):
        for asked, told, _ in TOLD:
            self.assertTrue(is_book(asked))
            table = dict(asked[1])
            rest = begun(asked)
            for place, sign in enumerate(told + " "):
                self.assertEqual(wants(asked, rest), "".join(sorted(words.all_begin(table, rest))))
                self.assertEqual(may_end(asked, rest), all(words.may_be_empty(table, item) for item in rest))
                if place == len(told):
                    self.yes(may_end, asked, rest)
                    break
                rest = self.told(behind, asked, rest, sign)
                self.assertEqual(rest, self.along(asked, told[:place + 1]))
        self.assertEqual(self.along(BRACKETS, "()("), None)
        for sign in SIGNS:
            self.assertEqual(self.along(BRACKETS, "()" + sign), None)
            self.assertEqual(self.along(book(a=NUMBER), "0" + sign), None)

    def test_each_rest_of_many_books(self):
        for asked in LET_BOOKS:
            table = dict(asked[1])
            rests = [begun(asked)]
            for rest in rests:
                self.assertEqual(wants(asked, rest), "".join(sorted(words.all_begin(table, rest))))
                self.assertEqual(may_end(asked, rest), all(words.may_be_empty(table, item) for item in rest))
                for sign in "ab01x,:;.(\n\"":
                    coming = behind(asked, rest, sign)
                    self.assertEqual(coming, words.rest_behind(table, rest, sign), (asked, rest, sign))
                    if coming is not None and coming not in rests and len(rests) < 30:
                        rests.append(coming)

    def test_rings_and_names_within_names(self):
        deep = self.along(BRACKETS, "(" * 24)
        self.assertEqual(deep, (again(A), text(")")) * 24)
        self.assertEqual(self.along(BRACKETS, "(" * 24 + ")" * 24), ())
        self.assertEqual(self.along(BRACKETS, "(" * 24 + ")" * 25), None)
        self.assertEqual(self.along(SUMS, "(x*")[0], ("named", "product"))
        self.assertEqual(self.along(COUNTS, "2!9"), (("due", 9, "!", COUNTS[1][0][1][2]), COUNTS[1][0][1][2]))

    def test_two_books_by_turns(self):
        one, other = book(a=row(B, END), b=NUMBER), book(a=row(B, END), b=WORD)
        for _ in range(2):
            self.same((MORE_FIGURES, END), behind, one, begun(one), "1")
            self.same(None, behind, other, begun(other), "1")
            self.same(None, behind, one, begun(one), "b")
            self.same((SPELT, END), behind, other, begun(other), "b")
            self.same(FIGURES, wants, one, (B,))
            self.same("ab", wants, other, (B,))
        self.assertEqual(read(one, "7;"), (7,))


if __name__ == "__main__":
    unittest.main()
