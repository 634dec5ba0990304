"""Joined books [23, 3 (h)]."""

import unittest

from readtell.books import is_book
from readtell.errors import FailsWithin, Fails, NoWorth
from readtell.joining import read_joined, tell_joined
from readtell.looking import verdict
from readtell.numbering import text_at
from readtell.reading import read
from readtell.telling import tell
from tests.asking import OTHER_KINDS, Asking, nested, snapshot
from tests.samples import (
    A, AB, B, BRACKETS, COMMA, EMPTY, NUMBER, QUOTED, SPELT, SUMS, VALUES, WORD, again, book, counted, either, row,
    skip, text,
)
from tests.test_forms import SIGNS

C = ("named", "c")
STROKED = ("spelt", ("pick", QUOTED))
LONG = ("spelt", ("pick", (("one.", "1"), ("two.", "2"), ("three.", "3"), ("comma.", ","), ("(", "("), (")", ")"))))
PAIRS = ("pick", (("first", "()"), ("second", "(()())"), ("none", ""), ("third", "(()"), ("fourth", "7"), ("fifth", "())")))

# The one's form, the other book, a text, and the worth that it is read to.
JOINED = (
    (AB, book(a=WORD), "a", "a"), (AB, book(a=either(text("a"), text("b"))), "b", ("ab",)),
    (("sign", SIGNS), book(a=NUMBER), "7", 7), (("word", SIGNS), book(a=NUMBER), "120", 120),
    (("word", SIGNS), BRACKETS, "(()(()))", read(BRACKETS, "(()(()))")), (("word", ",0123456789"), book(a=again(NUMBER, COMMA)), "1,20", (1, 20)),
    (("spelt", ("sign", SIGNS)), SUMS, "x", ((("ac", "x"), ("aa", ())), ("aa", ()))),
    (("spelt", ("sign", SIGNS)), book(a=SPELT), "", ""), (("spelt", ("sign", SIGNS)), book(a=again(NUMBER, COMMA)), "", ()),
    (STROKED, book(a=("spelt", ("sign", SIGNS))), "\\n\\\\a\\\"", "\n\\a\""),
    (LONG, book(a=again(NUMBER, COMMA)), "one.two.comma.three.", (12, 3)), (LONG, book(a=again(NUMBER, COMMA)), "", ()),
    (LONG, BRACKETS, "(())", read(BRACKETS, "(())")),
    (PAIRS, BRACKETS, "first", read(BRACKETS, "()")), (PAIRS, BRACKETS, "second", read(BRACKETS, "(()())")), (PAIRS, book(a=SPELT), "none", ""),
    (PAIRS, book(a=NUMBER), "fourth", 7),
)
# The one's form, the other book, a text, and what FailsWithin tells.
WITHIN = (
    (AB, book(a=text("b")), "a", (0, 0, "b", False)), (AB, book(a=text("ab")), "a", (1, 1, "b", False)),
    (AB, book(a=EMPTY), "b", (0, 0, "", True)),
    (("word", SIGNS), book(a=NUMBER), "a", (0, 0, "0123456789", False)), (("word", SIGNS), book(a=NUMBER), "1a", (1, 1, "0123456789", True)),
    (("word", SIGNS), book(a=NUMBER), "007", (1, 1, "", True)), (("word", SIGNS), book(a=again(NUMBER, COMMA)), "12,", (3, 3, "0123456789", False)),
    (("word", SIGNS), book(a=again(NUMBER, COMMA)), "12,,1", (3, 3, "0123456789", False)),
    (("spelt", ("sign", SIGNS)), book(a=NUMBER), "", (0, 0, "0123456789", False)), (("spelt", ("sign", SIGNS)), BRACKETS, "(()", (3, 3, "()", False)),
    (("spelt", ("sign", SIGNS)), BRACKETS, "())", (2, 2, "", True)), (("spelt", ("sign", SIGNS)), BRACKETS, "(x)", (1, 1, "()", False)),
    (LONG, book(a=NUMBER), "", (0, 0, "0123456789", False)), (LONG, book(a=NUMBER), "comma.", (0, 0, "0123456789", False)),
    (LONG, book(a=again(NUMBER, COMMA)), "one.comma.", (10, 2, "0123456789", False)),
    (LONG, book(a=again(NUMBER, COMMA)), "one.comma.comma.two.", (10, 2, "0123456789", False)),
    (LONG, book(a=again(NUMBER, COMMA)), "one.two.three.(", (14, 3, ",0123456789", True)),
    (LONG, book(a=text("3,1")), "three.comma.two.", (12, 2, "1", False)), (LONG, book(a=text("3,1")), "three.comma.", (12, 2, "1", False)),
    (LONG, book(a=text("3,1")), "three.comma.one.one.", (16, 3, "", True)),
    (STROKED, book(a=WORD), "\\n", (0, 0, "ab", False)), (STROKED, book(a=WORD), "a\\nb", (1, 1, "ab", True)),
    (STROKED, book(a=row(AB, text("\n\n"), AB)), "a\\n\\\\", (3, 2, "\n", False)),
    (STROKED, book(a=row(AB, text("\n\n"), AB)), "a\\n\\n", (5, 3, "ab", False)),
    (STROKED, book(a=row(AB, text("\n\n"), AB)), "a\\n\\nb\\\"", (6, 4, "", True)),
    (PAIRS, book(a=text("()(")), "first", (5, 2, "(", False)), (PAIRS, BRACKETS, "none", (4, 0, "(", False)), (PAIRS, BRACKETS, "third", (5, 3, "()", False)),
    (PAIRS, BRACKETS, "fourth", (0, 0, "(", False)), (PAIRS, BRACKETS, "fifth", (0, 2, "", True)), (PAIRS, book(a=AB), "second", (0, 0, "ab", False)),
    (PAIRS, book(a=text("(()()x")), "second", (0, 5, "x", False)),
)

# The one's form, a text that it has not, and what Fails tells.
FAILING = (
    (AB, "", (0, "ab", False)), (AB, "c", (0, "ab", False)), (AB, "ab", (1, "", True)), (WORD, "", (0, "ab", False)), (WORD, "aab,", (3, "ab", True)),
    (SPELT, "ab ", (2, "ab", True)), (LONG, "one.tw", (6, "o", False)), (LONG, "one.four", (4, "()cot", True)),
    (PAIRS, "sec", (3, "o", False)), (PAIRS, "f", (1, "io", False)), (PAIRS, "firsts", (5, "", True)), (STROKED, "\\x", (1, "\"\\n", False)),
)


def spelling(form):
    """Books that spell by this form: by it alone, by a name, by names of names."""
    return (
        book(a=form), book(a=B, b=form), book(a=B, b=C, c=form), ("c", (("a", form), ("b", A), ("c", B))),
        book(a=form, b=row(A, COMMA)), book(a=B, b=form, c=C),
    )


class Reading(Asking):
    def test_books(self):
        for form, other, told, worth in JOINED:
            for one in spelling(form):
                self.assertEqual((is_book(one), verdict(one), verdict(other)), (True, ("let",), ("let",)))
                self.same(worth, read_joined, one, other, told)
                self.assertEqual(snapshot(read(other, read(one, told))), snapshot(worth))

    def test_what_the_other_can_not_read(self):
        for form, other, told, values in WITHIN:
            for one in spelling(form):
                self.assertEqual(snapshot(values), snapshot(self.refused(FailsWithin, read_joined, one, other, told)), told)

    def test_what_the_one_can_not_read(self):
        for form, told, values in FAILING:
            for one in spelling(form):
                for other in (book(a=WORD), BRACKETS, book(a=EMPTY), book(a=("spelt", ("sign", SIGNS)))):
                    self.fails(*values, read_joined, one, other, told)

    def test_each_sign(self):
        one = book(a=("spelt", ("pick", tuple(("<" * (at % 3) + ">" + sign, sign) for at, sign in enumerate(SIGNS)))))
        for at, sign in enumerate(SIGNS):
            told = "<" * (at % 3) + ">" + sign
            self.same(sign * 3, read_joined, one, book(a=("word", sign)), told * 3)
            other = SIGNS[at - 1]
            values = (len(told) * 2, 2, sign, True)
            spoilt = told * 2 + "<" * ((len(SIGNS) + at - 1) % len(SIGNS) % 3) + ">" + other
            self.assertEqual(values, self.refused(FailsWithin, read_joined, one, book(a=("word", sign)), spoilt))

    def test_a_longer_text(self):
        one = book(a=("word", SIGNS))
        told = "[" + ",".join(['{"k":[1,2, "a\\n"]}'] * 20) + "]"
        self.same(read(VALUES, told), read_joined, one, VALUES, told)
        for at in (0, 1, 5, 6, len(told)):
            spoilt = told[:at] + "?" + told[at:]
            with self.assertRaises(Fails) as failing:
                read(VALUES, spoilt)
            values = failing.exception
            if values.place < len(spoilt):
                self.assertEqual((values.place, values.place, values.wants, values.end), self.refused(FailsWithin, read_joined, one, VALUES, spoilt))


class Telling(Asking):
    def test_books(self):
        for form, other, _, worth in JOINED:
            for one in spelling(form):
                told = self.told(tell_joined, one, other, worth)
                self.assertEqual(told, tell(one, tell(other, worth)))
                self.same(worth, read_joined, one, other, told)

    def test_what_has_many_texts(self):
        other = book(a=row(skip(again(text(" "))), NUMBER, skip(again(text(" ")))))
        one = book(a=("spelt", ("pick", ((" ", " "), ("n1", "1"), ("n2", "2")))))
        self.same((12,), read_joined, one, other, "  n1n2 ")
        self.same("n1n2", tell_joined, one, other, (12,))

    def test_what_the_other_has_no_text_for(self):
        for one in spelling(("word", SIGNS)):
            for other in (BRACKETS, VALUES, book(a=NUMBER), book(a=again(NUMBER, COMMA))):
                for x in OTHER_KINDS + ("a", (("a",), 1), ["a"], ([],), (-1,), nested("", 80), nested(None, 79)):
                    self.refused(NoWorth, tell_joined, one, other, x)

    def test_what_the_one_has_no_text_for(self):
        self.refused(NoWorth, tell_joined, book(a=AB), book(a=SPELT), "")
        self.refused(NoWorth, tell_joined, book(a=AB), book(a=SPELT), "ab")
        self.same("b", tell_joined, book(a=AB), book(a=SPELT), "b")
        self.refused(NoWorth, tell_joined, book(a=WORD), book(a=SPELT), "")
        self.same("ba", tell_joined, book(a=WORD), book(a=SPELT), "ba")
        self.refused(NoWorth, tell_joined, book(a=WORD), book(a=NUMBER), 7)
        self.refused(NoWorth, tell_joined, book(a=LONG), book(a=NUMBER), 14)
        self.same("one.three.", tell_joined, book(a=LONG), book(a=NUMBER), 13)
        self.refused(NoWorth, tell_joined, book(a=PAIRS), BRACKETS, (((),),))
        self.same("second", tell_joined, book(a=PAIRS), BRACKETS, read(BRACKETS, "(()())"))
        self.refused(NoWorth, tell_joined, book(a=PAIRS), book(a=NUMBER), 8)
        self.refused(NoWorth, tell_joined, book(a=("word", SIGNS)), book(a=counted(":", NUMBER)), [1])

    def test_what_is_told_reads_back(self):
        for one in (book(a=("spelt", ("sign", SIGNS))), book(a=STROKED), ("b", (("b", C), ("c", STROKED)))):
            for other in (VALUES, SUMS, BRACKETS, book(a=counted(":", either(NUMBER, WORD)))):
                for k in range(0, 40, 3):
                    worth = read(other, text_at(other, k, 12))
                    told = tell_joined(one, other, worth)
                    self.same(worth, read_joined, one, other, told)
                    self.same(told, tell_joined, one, other, worth)


if __name__ == "__main__":
    unittest.main()
