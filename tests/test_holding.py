"""Two books held against one another [21, 3 (f)]."""

import unittest

from readtell.alikepapers import shows_alike
from readtell.books import is_book
from readtell.holding import held
from readtell.looking import verdict
from readtell.shortening import shorter
from tests.asking import Asking, snapshot
from tests.pairs_by_words import items_met, least_parting, many_begun, with_names
from tests.samples import (
    A, AB, B, BRACKETS, COMMA, COUNTS, EMPTY, LET_BOOKS, MAYBE, NUMBER, PICK, SPELT, SUMS, VALUES, WORD, again, book,
    counted, either, row, skip, text,
)
from tests.test_forms import LETTERS, SIGNS

C = ("named", "c")
CLOSE = text(")")
FIGURE = ("sign", "0123456789")
FIRST = ("sign", "123456789")
MOST = 2000

# Forms told otherwise, which have the same texts.
OTHERWISE = (
    (text("ab"), row(text("a"), text("b"))), (text("abcd"), row(text("a"), row(text("bc"), EMPTY), text("d"))),
    (row(text("ab"), text("cd"), text("e")), row(text("abc"), text("de"))),
    (AB, either(text("a"), text("b"))), (either(COMMA, AB), either(AB, COMMA)), (("sign", "abc"), either(AB, text("c"))),
    (WORD, row(AB, SPELT)), (WORD, row(AB, again(AB))), (SPELT, again(AB)), (SPELT, either(EMPTY, WORD)),
    (NUMBER, either(text("0"), row(FIRST, ("spelt", FIGURE)))), (NUMBER, either(row(FIRST, again(FIGURE)), ("pick", (("0", 1),)))),
    (PICK, either(row(text("a"), ("sign", "bc")), text("b"))), (PICK, ("pick", (("b", 1), ("ac", 2), ("ab", 3)))),
    (("spelt", ("pick", (("a1", "a"), ("b1", "b")))), again(row(AB, text("1")))),
    (row(row(row(COMMA), AB)), row(COMMA, row(EMPTY, row(AB)))), (either(either(COMMA, NUMBER), AB), either(AB, NUMBER, COMMA)),
    (row(MAYBE, AB), either(row(COMMA, AB), AB)), (row(EMPTY, EMPTY, NUMBER, EMPTY), NUMBER),
    (row(MAYBE, either(EMPTY, AB)), either(EMPTY, AB, row(COMMA, either(AB, EMPTY)))),
    (again(AB, COMMA), either(EMPTY, row(AB, again(row(COMMA, AB))))),
    (again(NUMBER, COMMA), either(row(NUMBER, again(row(COMMA, NUMBER))), EMPTY)),
    (again(COMMA), again(COMMA, skip(EMPTY))), (row(again(AB), COMMA), either(COMMA, row(WORD, COMMA))),
    (skip(again(("sign", "\n "))), skip(("spelt", ("sign", "\n ")))), (skip(NUMBER), NUMBER), (skip(skip(WORD)), WORD),
    (skip(either(NUMBER, WORD)), either(WORD, skip(NUMBER))), (("turned", NUMBER, ((0, 1),)), NUMBER),
    (("turned", row(NUMBER, COMMA), (((0,), (1,)),)), row(("turned", NUMBER, ((3, 4),)), COMMA)),
    (row(NUMBER, COMMA, AB), row(NUMBER, skip(COMMA), AB)), (row(AB, skip(text("xy")), text("z")), row(AB, text("xyz"))),
    (counted(":", AB), counted(":", either(text("b"), text("a")))), (counted(":x", COMMA), counted(":x", row(EMPTY, COMMA))),
    (counted(":", row(COMMA, text(";"))), counted(":", text(",;"))), (counted(":", EMPTY), counted(":", row(EMPTY, EMPTY))),
    (row(counted(":", EMPTY), COMMA), row(counted(":", skip(EMPTY)), COMMA)),
    (counted(":", counted("!", AB)), counted(":", counted("!", ("pick", (("a", 1), ("b", 2)))))),
    (row(COMMA, EMPTY, AB), row(COMMA, AB, EMPTY)), (EMPTY, row(EMPTY, either(EMPTY))), (EMPTY, skip(EMPTY)),
)

# What may be empty, beside what else it may be: cut unevenly.
EMPTY_BESIDE = (
    (row(COMMA, EMPTY, MAYBE), row(COMMA, MAYBE)), (row(COMMA, MAYBE), row(COMMA, EMPTY, EMPTY, MAYBE, EMPTY)),
    (row(AB, MAYBE, either(EMPTY, NUMBER)), row(AB, either(EMPTY, NUMBER, row(COMMA, either(EMPTY, NUMBER))))),
    (row(AB, either(EMPTY, NUMBER), MAYBE, AB), row(AB, either(EMPTY, COMMA, row(NUMBER, MAYBE)), AB)),
    (row(AB, again(COMMA), again(text(";")), NUMBER), row(AB, EMPTY, again(COMMA), row(EMPTY), again(text(";")), NUMBER)),
    (row(COMMA, text("a"), text("bcd"), text("e")), row(COMMA, text("ab"), text("c"), text("de"))),
    (row(COMMA, text("a"), AB, text("xy"), text("z")), row(COMMA, text("a"), AB, text("x"), row(text("y"), EMPTY), text("z"))),
)

# Names within themselves, with texts ahead, between and behind that become one.
NESTED = (
    book(a=row(text("("), skip(text("x")), text("y"), again(A), text("u"), skip(skip(text("vw"))), text("x"), CLOSE)),
    book(a=row(text("("), again(B, skip(COMMA)), text("."), CLOSE), b=row(text("<"), text("a"), A, text("b"), text("c"), text(">"))),
    book(a=either(COMMA, row(text("("), A, text("a"), text("a"), B, text("ab"), text("a"), CLOSE)), b=row(text("!"), A, text("a"), text("!"))),
    book(a=row(text("("), EMPTY, again(A), EMPTY, text(";"), text(";"), EMPTY, CLOSE, skip(EMPTY))),
    book(a=row(counted(":", either(A, row(text("x"), text("y")))), text("a"), text("b"))),
)

# Two forms, and the least text that just one has.
PARTED = (
    (text("a"), text("b"), "a"), (text("a"), text("aa"), "a"), (text("ab"), text("ac"), "ab"), (text("b"), EMPTY, ""),
    (AB, MAYBE, ""), (SPELT, WORD, ""), (AB, ("sign", "abc"), "c"), (AB, ("sign", "b"), "a"), (AB, WORD, "aa"),
    (COMMA, MAYBE, ""), (again(COMMA), COMMA, ""), (again(AB), again(AB, COMMA), "aa"), (again(AB, COMMA), row(AB, again(row(COMMA, AB))), ""),
    (again(row(AB, COMMA)), again(row(AB, text(";"))), "a,"), (again(row(COMMA, AB)), again(row(COMMA, either(EMPTY, AB))), ","),
    (again(AB, COMMA), again(AB, text(";")), "a,a"), (again(AB, COMMA), either(EMPTY, row(AB, either(EMPTY, row(COMMA, AB)))), "a,a,a"),
    (NUMBER, ("spelt", FIGURE), ""), (NUMBER, row(FIGURE, ("spelt", FIGURE)), "00"), (NUMBER, row(FIRST, ("spelt", FIGURE)), "0"),
    (counted(":", AB), counted(";", AB), "0:"), (counted(":", AB), counted(":", ("sign", "a")), "1:b"),
    (counted(":", AB), counted(":", row(AB, COMMA)), "1:a"), (counted(":", COMMA), text("0:"), "1:,"),
    (counted(":", EMPTY), either(text("0:"), row(FIRST, text(":"))), "10:"),
    (counted(":", EMPTY), row(either(text("0"), row(FIRST, either(EMPTY, ("sign", "012345678")))), text(":")), "19:"),
    (counted(":", EMPTY), row(either(text("0"), row(("sign", "12345678"), either(EMPTY, FIGURE)), row(text("9"), either(EMPTY, ("sign", "012345678")))), text(":")), "99:"),
    (counted(":", EMPTY), row(either(text("0"), row(FIRST, ("spelt", FIGURE))), text(":")), "100:"),
    (row(counted(":", AB), COMMA), row(counted(":", AB), text(";")), "0:,"),
    (row(COMMA, either(row(text("x"), AB), row(text("y"), AB))), row(COMMA, either(row(text("x"), AB), row(text("y"), ("sign", "a")))), ",yb"),
    (row(AB, AB, AB, AB), row(AB, AB, AB, either(text("a"), text("c"))), "aaab"), (row(AB, AB, AB, MAYBE), row(AB, AB, AB), "aaa,"),
    (PICK, ("pick", (("ab", 1), ("ac", 2), ("c", 3))), "b"), (PICK, ("pick", (("ab", 1), ("ad", 2), ("b", 3))), "ac"),
    (text("b" * 30), row(text("b" * 29), AB), "b" * 29 + "a"), (row(again(text("("), COMMA), text("))")), row(again(text("("), COMMA), text(")]")), "))"),
    (skip(again(AB)), skip(again(AB, COMMA)), "aa"), (either(row(text("b"), AB), COMMA), either(row(text("b"), AB), text(";")), ","),
    (either(row(text("b"), SPELT), text("aaa")), either(text("b"), text("aaa")), "ba"),
    (either(text("bb"), text("caa")), either(text("caa"), text("da")), "bb"),
)


class Alike(Asking):
    def alike(self, one, other, most=MOST, never_open=True):
        answer = self.told(held, one, other, most)
        if never_open:
            self.assertEqual(answer[0], "alike", (one, other))
        if answer[0] == "alike":
            self.assertEqual(len(answer), 2)
            self.assertLessEqual(len(answer[1]), most)
            self.yes(shows_alike, one, other, answer[1])
            for pair in answer[1]:
                self.assertEqual([type(pair), len(pair), type(pair[0]), type(pair[1])], [tuple, 2, tuple, tuple])
        else:
            self.assertEqual(answer, ("open",))
            self.assertGreater(many_begun(one, other, None, most), most)

    def test_itself_and_its_kin(self):
        for asked in LET_BOOKS:
            self.assertIsNot(items_met(asked, 1000), None)
            names = {name: ("z" + name)[:8] for name, _ in asked[1]}
            for other in (asked, shorter(asked), with_names(asked, names), with_names(shorter(asked), names)):
                if set(name for name, _ in other[1]) <= set(names) | set(names.values()):
                    self.alike(asked, other)
                    self.alike(other, asked)

    def test_told_otherwise(self):
        for one, other in OTHERWISE:
            self.alike(book(a=one), book(a=other))
            self.alike(book(a=other), book(a=one))
            for most in (1, 2, 3, 5, 8, 20, 100):
                self.alike(book(a=one), book(a=other), most, False)
            within = [book(a=row(text("<"), B, text(">"), B), b=form) for form in (one, other)]
            self.alike(*within)
            rings = [book(a=row(text("("), again(row(B, A)), CLOSE), b=row(text("="), form, CLOSE)) for form in (one, other)]
            self.alike(*rings)
            self.alike(*rings, 20, False)

    def test_rings_by_other_names(self):
        two = book(a=row(text("("), again(B), CLOSE), b=row(text("("), again(A), CLOSE))
        three = book(a=row(text("("), again(B), CLOSE), b=row(text("("), again(C), CLOSE), c=row(text("("), again(A), CLOSE))
        more = book(a=either(row(text("("), again(A), CLOSE)), b=A)
        for one in (BRACKETS, two, three, more):
            for other in (BRACKETS, two, three, more):
                self.alike(one, other)
                self.alike(one, other, 5, False)

    def test_whole_books_told_otherwise(self):
        sums = ("sum", (
            ("one", either(("word", "xyz"), row(text("("), ("named", "sum"), CLOSE), NUMBER)),
            ("rest", either(row(text("*"), ("named", "product")), EMPTY)),
            ("product", row(("named", "one"), ("named", "rest"))),
            ("sum", row(("named", "product"), either(row(("sign", "+-"), ("named", "sum")), EMPTY))),
        ))
        sums = (sums[0], tuple(sorted(sums[1])))
        self.alike(SUMS, sums)
        self.alike(sums, SUMS)
        blanks = skip(("spelt", ("sign", "\n ")))
        values = (VALUES[0], tuple((name, blanks if name == "blanks" else form) for name, form in VALUES[1]))
        self.alike(VALUES, values)
        self.alike(values, VALUES)

    def test_as_many_unlike_items_as_1000(self):
        signs = [sign for sign in SIGNS if not sign.isdigit() and sign != ":"]
        many = [row(text(sign), counted(":" + sign, ("sign", sign))) for sign in signs[:63]]
        texts = ["".join((signs[at % 80], signs[80 + at // 80], signs[at], "~|"[at % 2], "-" * (at % 5), "+")) for at in range(80)]
        picked = row(text("9"), ("pick", tuple((told, at) for at, told in enumerate(texts))), skip(skip(text("!?"))), text("."))
        asked = book(a=either(*many, picked))
        self.assertEqual((is_book(asked), verdict(asked)), (True, ("let",)))
        self.assertIn(len(items_met(asked, 1000) or ()), range(990, 1001))
        named = with_names(asked, {"a": "other"})
        for other in (asked, shorter(asked), named):
            for one, two in ((asked, other), (other, asked)):
                answer = held(one, two, MOST)
                self.assertEqual(answer[0], "alike")
                self.assertLessEqual(len(answer[1]), MOST)
                self.assertIs(shows_alike(one, two, answer[1]), True)

    def test_long_rows_of_texts(self):
        rows = {
            "a": row(*[text("ab"[at % 2] * (at % 3 + 1)) for at in range(120)]),
            "b": row(*[skip(skip(text("x"))), text("x"), skip(text("x")), text("x")] * 30),
        }
        asked = ("c", tuple(sorted({**rows, "c": row(again(row(text("("), A, B, CLOSE)), B, text("x"), A)}.items())))
        self.alike(asked, shorter(asked))
        self.alike(shorter(asked), asked)
        self.alike(asked, asked)

    def test_rests_that_never_end_alike(self):
        # What stands at the end of each rest is never one of a pair that was met: so rests must be cut into pieces.
        for asked in (VALUES, SUMS, COUNTS, BRACKETS) + NESTED:
            start = ("named", asked[0])
            bottom = ("bottom", tuple(sorted(asked[1] + (("bottom", row(start, text("$"), skip(text("$")), text("~"))),))))
            self.assertEqual((is_book(bottom), verdict(bottom)), (True, ("let",)))
            self.assertIsNot(items_met(bottom, 1000), None)
            names = {name: ("z" + name)[:8] for name, _ in bottom[1]}
            for other in (bottom, shorter(bottom), with_names(bottom, names)):
                self.alike(bottom, other)
                self.alike(other, bottom)

    def test_told_otherwise_with_rests_that_never_end_alike(self):
        for one, other in OTHERWISE + EMPTY_BESIDE:
            found = [("s", (("a", row(text("("), again(A), text("="), form, CLOSE)), ("s", row(A, text("$"))))) for form in (one, other)]
            if verdict(found[0]) == ("let",):
                self.alike(*found, never_open=False)
                self.assertEqual(held(*found, MOST)[0], "alike", (one, other))
                self.assertEqual(held(*found[::-1], MOST)[0], "alike", (one, other))

    def test_empty_items(self):
        forms = [row(EMPTY, COMMA), row(COMMA, EMPTY), row(EMPTY, COMMA, EMPTY), COMMA, row(skip(EMPTY), row(EMPTY), COMMA)]
        for one in forms:
            for other in forms:
                self.alike(book(a=row(AB, one)), book(a=row(AB, other)))
                self.alike(book(a=row(AB, one, again(row(A, EMPTY)))), book(a=row(AB, other, again(row(A, EMPTY)))))


class Parted(Asking):
    def test_parting_texts(self):
        for one, other, told in PARTED:
            for mine, yours in ((one, other), (other, one)):
                self.parted(book(a=mine), book(a=yours), told)
                self.parted(book(a=skip(B), b=mine), book(a=B, b=yours), told)
            self.assertEqual(least_parting(book(a=one), book(a=other), min(len(told), 4)), told if len(told) < 5 else None)

    def parted(self, one, other, told):
        self.assertEqual((verdict(one), verdict(other)), (("let",), ("let",)))
        self.same(("parts", told), held, one, other, MOST)
        for most in (1, 2, 3, 4, 6, 9, 14, 30, 100):
            answer = self.told(held, one, other, most)
            if answer != ("parts", told):
                self.assertEqual(answer, ("open",), (one, other, most))
                self.assertGreater(many_begun(one, other, len(told), most), most)

    def test_by_the_last_pair(self):
        # Just one pair of rests comes of each beginning, and the last one tells.
        for signs in range(1, 30):
            one, other = book(a=text("b" * signs)), book(a=row(*[text("b")] * (signs - 1), text("c")))
            self.same(("parts", "b" * signs), held, one, other, signs)
            answer = held(one, other, signs - 1) if signs > 1 else ("open",)
            self.assertIn(answer, (("open",), ("parts", "b" * signs)))
            one, other = book(a=text("b" * signs)), book(a=row(text("b" * signs), MAYBE))
            self.same(("parts", "b" * signs + ","), held, one, other, signs + 1)
            one, other = book(a=row(text("b" * signs), SPELT)), book(a=row(text("b" * signs), WORD))
            self.same(("parts", "b" * signs), held, one, other, signs)
            self.same(("parts", "b" * signs), held, other, one, signs)

    def test_by_the_empty_text_alone(self):
        for form in (AB, WORD, NUMBER, PICK, counted(":", AB), row(COMMA, A)):
            for one, other in ((form, either(form, EMPTY)), (form, again(form, COMMA)), (row(form, MAYBE), EMPTY)):
                if form != row(COMMA, A):
                    self.same(("parts", ""), held, book(a=one), book(a=other), 1)
                    self.same(("parts", ""), held, book(a=other), book(a=one), 1)

    def test_within_larger_books(self):
        changed = (
            (VALUES, ("blanks", skip(again(("sign", " ")))), "\n0"), (VALUES, ("number", row(AB, ("named", "blanks"))), "0"),
            (SUMS, ("one", either(NUMBER, row(text("("), ("named", "sum"), CLOSE), ("word", "xy"))), "z"),
            (COUNTS, ("box", counted("?", ("named", "box"))), "0!"),
        )
        for asked, (name, form), _ in changed:
            other = (asked[0], tuple((one, form if one == name else old) for one, old in asked[1]))
            self.assertEqual(verdict(other), ("let",))
            least = least_parting(asked, other, 2)
            for one, two in ((asked, other), (other, asked)):
                answer = self.told(held, one, two, MOST)
                self.assertEqual(answer[0], "parts")
                if least not in ("?", None):
                    self.assertEqual(answer[1], least)
        brackets = book(a=row(text("("), again(A), text("]")))
        self.same(("parts", "()"), held, BRACKETS, brackets, 3)
        deeper = book(a=row(text("("), again(B), CLOSE), b=row(text("("), again(C), CLOSE), c=row(text("("), CLOSE))
        self.same(("parts", "(((())))"), held, BRACKETS, deeper, MOST)
        self.same(("parts", "(((())))"), held, deeper, BRACKETS, MOST)

    def test_a_longer_text_of_lesser_signs(self):
        # Found first is not least: aaaa begins with a lesser sign, and has more.
        one = book(a=either(row(text("a"), either(text("aaa"), text("x"))), row(text("b"), AB)))
        other = book(a=either(text("ax"), row(text("b"), text("a"))))
        self.same(("parts", "bb"), held, one, other, 10)
        self.same(("parts", "bb"), held, other, one, 10)
        one = book(a=either(row(text("a"), either(text("aa"), text("x"))), row(text("b"), ("spelt", ("sign", "c")))))
        other = book(a=either(text("ax"), row(text("b"), ("spelt", ("sign", "c")), MAYBE)))
        self.same(("parts", "b,"), held, one, other, 10)


class Asked(Asking):
    def test_books_by_turns(self):
        books = [VALUES, SUMS, COUNTS, BRACKETS, book(a=WORD), book(a=row(AB, SPELT))]
        first = [[snapshot(held(one, other, 60)) for other in books] for one in books]
        again_told = [[snapshot(held(one, other, 60)) for other in books] for one in books]
        self.assertEqual(first, again_told)
        for at, one in enumerate(books):
            self.assertEqual(first[at][at][1][0], snapshot("alike"))
            for by, other in enumerate(books):
                self.assertEqual(first[at][by][1][0], first[by][at][1][0])

    def test_names_that_are_not_met(self):
        one = book(a=WORD, b=row(B, COMMA), c=AB)
        other = book(a=WORD, d=("named", "e"), e=("named", "d"))
        self.assertEqual(self.told(held, one, other, 2)[0], "alike")
        self.same(("parts", "aa"), held, one, book(a=AB, c=C), 2)

    def test_all_signs(self):
        one, other = book(a=("spelt", ("sign", SIGNS))), book(a=again(("sign", SIGNS)))
        self.assertEqual(self.told(held, one, other, 10)[0], "alike")
        for sign in SIGNS:
            fewer = book(a=("spelt", ("sign", SIGNS.replace(sign, ""))))
            self.same(("parts", sign), held, one, fewer, 10)
        quoted = tuple((sign, sign) for sign in LETTERS)
        self.same(("parts", "\n"), held, one, book(a=("spelt", ("pick", quoted))), 10)


if __name__ == "__main__":
    unittest.main()
