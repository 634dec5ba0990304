"""The looker [10, 3 (b)]."""

import unittest

from readtell.apart import shows_apart
from readtell.books import is_book
from readtell.leasts import endless
from readtell.looking import verdict
from readtell.walking import shows_read, walked
from tests.asking import Asking
from tests.brute import go_apart
from tests.test_books import A, book
from tests.test_forms import NUMBER, SIGNS
from tests.test_leasts import IN_NEED

B = ("named", "b")
C = ("named", "c")
COMMA = ("text", ",")
AB = ("sign", "ab")
EMPTY = ("row", ())


def row(*forms):
    return ("row", forms)


def either(*forms):
    return ("either", tuple((chr(97 + at // 26) + chr(97 + at % 26), form) for at, form in enumerate(forms)))


def again(form, between=None):
    return ("again", form, between)


def text(told):
    return ("text", told)


def skip(form):
    return ("skip", form)


def counted(told, form):
    return ("counted", told, form)


WORD = ("word", "ab")
SPELT = ("spelt", AB)
PICK = ("pick", (("ab", 1), ("ac", "x"), ("b", 3)))
SPELT_PICK = ("spelt", ("pick", (("a1", "a"), ("b1", "b"))))
MAYBE = either(EMPTY, COMMA)

# Forms of which the next sign, or the end, always tells the way.
LET = (
    text("a"), text("a\n1"), skip(NUMBER), AB, ("sign", SIGNS), WORD, ("word", SIGNS), NUMBER, PICK, SPELT,
    SPELT_PICK,
    EMPTY, row(NUMBER, COMMA, NUMBER), either(NUMBER), MAYBE, again(COMMA), again(AB), again(AB, COMMA),
    again(NUMBER, COMMA),
    again(WORD, skip(text(" "))), counted(":", AB), counted(":x", COMMA), counted("a1", EMPTY),
    ("turned", NUMBER, ((0, 1),)),
    ("turned", row(NUMBER, COMMA), (((0,), (1,)),)),
    row(WORD, NUMBER), row(NUMBER, WORD), row(NUMBER, text("a1")), row(WORD, text("c"), WORD), row(AB, WORD),
    row(SPELT, NUMBER), row(SPELT_PICK, text("1")), row(PICK, PICK), row(PICK, AB),
    row(again(AB), NUMBER), row(again(AB, COMMA), text(";")), row(again(row(AB, COMMA)), text("c")),
    row(again(AB), text("cb")),
    row(again(NUMBER, COMMA), text("a,")), again(row(COMMA, again(AB))), again(row(COMMA, NUMBER)),
    again(row(AB, again(NUMBER, COMMA)), text(";")), again(row(COMMA, SPELT), text("c")),
    either(COMMA, EMPTY), either(NUMBER, WORD, EMPTY, text("-")), either(row(text("if"), AB), row(text("of"), AB)),
    either(*[text(sign + "x") for sign in SIGNS]), row(*[again(text(sign)) for sign in SIGNS]),
    row(MAYBE, NUMBER), row(either(EMPTY, AB), MAYBE, either(EMPTY, NUMBER)), row(NUMBER, either(text("."), EMPTY)),
    row(either(EMPTY, row(COMMA, AB)), text("a")), either(either(EMPTY, COMMA), NUMBER),
    row(EMPTY, EMPTY, NUMBER, EMPTY),
    row(counted(":", AB), AB), row(counted(":", EMPTY), NUMBER), counted(":", counted(":", AB)),
    row(counted("b", AB), NUMBER),
    counted(":", row(again(COMMA), text(";"))), row(counted(":", row(NUMBER, COMMA)), NUMBER),
    row(skip(again(text(" "))), AB),
    row(counted(":", row(COMMA, either(EMPTY, text(";")))), text(".")),
    row(NUMBER, COMMA, counted("/", row(COMMA, NUMBER)), COMMA),
)

# Forms with a clash, by sorts.
CLASHES = (
    # Choices that begin alike.
    either(COMMA, COMMA), either(AB, text("b")), either(NUMBER, text("9")), either(NUMBER, text("0")),
    either(WORD, row(AB, COMMA)),
    either(COMMA, NUMBER, AB, row(COMMA, AB)), either(NUMBER, COMMA, skip(row(EMPTY, text("5")))),
    either(counted(":", AB), NUMBER), either(counted(":", AB), text("7")), either(text("0;"), counted(":", AB)),
    either(text("ab"), text("ac")), either(PICK, text("bd")), either(("pick", (("xa", 1), ("ya", 2))), text("yb")),
    either(row(again(COMMA), AB), text("a")), either(COMMA, again(COMMA)), either(SPELT, text("bb")),
    either(AB, SPELT_PICK),
    either(row(EMPTY, skip(COMMA)), text(",a")), either(row(either(EMPTY, AB), COMMA), row(MAYBE, NUMBER)),
    either(("turned", NUMBER, ((0, 1),)), text("1")), either(text("a"), either(COMMA, text("aa"))),
    either(either(AB), AB),
    # Choices that may both be empty.
    either(EMPTY, EMPTY), either(again(AB), again(COMMA)), either(EMPTY, skip(EMPTY)), either(COMMA, SPELT, EMPTY),
    row(either(EMPTY, again(COMMA)), NUMBER), either(row(again(COMMA), again(AB)), EMPTY),
    either(either(EMPTY), EMPTY),
    row(COMMA, either(EMPTY, EMPTY), again(AB), MAYBE), either(EMPTY, row(MAYBE, EMPTY)),
    # One that may be empty while the same sign stands behind.
    row(MAYBE, COMMA), row(either(COMMA, EMPTY), COMMA), row(either(AB, EMPTY), again(COMMA), text("b")),
    row(MAYBE, MAYBE),
    row(either(text("ab"), EMPTY), MAYBE, text("a")), row(MAYBE, either(NUMBER, COMMA)),
    row(either(EMPTY, NUMBER), counted(":", AB)),
    again(row(COMMA, MAYBE)), again(row(COMMA, either(EMPTY, AB)), text("b")),
    again(row(NUMBER, COMMA, either(EMPTY, AB)), skip(AB)),
    counted(":", row(COMMA, MAYBE)), row(counted(":", row(COMMA, either(EMPTY, AB))), AB),
    row(either(EMPTY, row(AB, MAYBE)), WORD),
    row(skip(row(COMMA, either(COMMA, AB, EMPTY))), AB),
    row(COMMA, ("turned", MAYBE, ((("aa", ()), ("ab",)),)), COMMA),
    # Words, numbers, spelt ones and again and again, with a sign of theirs behind.
    row(WORD, text("b")), row(WORD, again(COMMA), AB), row(("word", SIGNS), COMMA), again(WORD),
    again(WORD, text("a")),
    counted(":", WORD), row(NUMBER, NUMBER), row(NUMBER, text("5")), row(NUMBER, either(COMMA, NUMBER)),
    again(NUMBER),
    counted(":", NUMBER), row(skip(NUMBER), skip(NUMBER)), again(NUMBER, text("0")), row(NUMBER, counted(":", AB)),
    row(SPELT, AB), row(SPELT_PICK, text("ay")), again(row(COMMA, ("spelt", ("sign", ",")))), row(SPELT, SPELT),
    row(again(AB), AB), row(again(AB), again(AB)), row(again(AB, COMMA), COMMA), row(again(AB, COMMA), text("a")),
    row(again(AB, skip(EMPTY)), AB), again(row(COMMA, again(COMMA))), row(again(row(AB, COMMA)), text("ax")),
    row(again(AB, text(",,")), text(",.")), again(row(NUMBER, COMMA, again(AB)), text("b")),
    row(again(text("ab"), COMMA), MAYBE),
    row(again(NUMBER, COMMA), NUMBER), again(row(COMMA, again(AB)), text("a")),
    row(again(AB, skip(again(text("a")))), COMMA),
    # Counts with a figure behind.
    counted("0", AB), counted("9", AB), counted("5:", EMPTY), counted("1", text("1")), counted("3", counted("4", AB)),
    counted(":", counted("1", COMMA)), counted("0" * 12, row(NUMBER, COMMA)),
    # An empty form again and again.
    again(EMPTY), again(EMPTY, COMMA), again(again(AB)), again(MAYBE), again(skip(EMPTY)), again(SPELT, COMMA),
    again(row(again(COMMA), again(AB))), again(EMPTY, skip(EMPTY)), again(row(skip(EMPTY), EMPTY)),
    again(either(COMMA, EMPTY), text(";")),
)


class Looker(Asking):
    def let(self, asked):
        self.assertTrue(is_book(asked), asked)
        self.same(("let",), verdict, asked)

    def clash(self, asked):
        """The book isn't let, as shown by two texts with ways that go apart."""
        self.assertTrue(is_book(asked), asked)
        answer = self.told(verdict, asked)
        self.assertEqual((answer[0], len(answer)), ("apart", 3), asked)
        self.yes(shows_apart, asked, answer[1:])
        self.yes(shows_apart, asked, answer[:0:-1])
        self.assertTrue(go_apart(answer[1], answer[2]), answer)
        for told, way in answer[1:]:
            worth = walked(asked, told, way)
            self.assertIsNot(worth, None)
            self.yes(shows_read, asked, told, way, worth)
        return answer[1:]

    def test_let_books_of_each_word(self):
        for form in LET:
            self.let(book(a=form))
            self.let(book(a=B, b=C, c=form))

    def test_let_beside_others(self):
        for form in LET:
            if "\\n" not in str(form):
                walled = row(text("\n"), B, text("\n"))
                self.let(book(a=walled, b=form))
                self.let(book(a=again(walled), b=form))
                self.let(book(a=row(AB, either(walled, row(COMMA, skip(walled)))), b=form))
                self.let(book(a=counted(":", walled), b=form))

    def test_a_clash_of_each_sort(self):
        for form in CLASHES:
            self.clash(book(a=form))

    def test_clashes_by_names(self):
        for form in CLASHES:
            self.clash(book(a=B, b=form))
            self.clash(book(a=row(COMMA, B), b=C, c=form))
            self.clash(("c", (("a", form), ("b", ("skip", A)), ("c", again(row(COMMA, B))))))

    def test_clashes_at_a_depth(self):
        for form in CLASHES:
            deep = form
            for _ in range(3):
                deep = counted(":", either(row(text("-"), ("skip", deep)), row(text("+"), deep, text("x"))))
            self.clash(book(a=deep))
            self.clash(book(a=again(row(text("<"), either(row(text("!"), B), NUMBER), text(">"))), b=form))

    def test_clashes_behind_like_beginnings(self):
        begun = row(("word", "xyz"), text("="), again(row(NUMBER, text("."))), text(";"), counted(":", COMMA),
                text(";"))
        self.let(book(a=begun))
        for form in CLASHES:
            one, other = self.clash(book(a=row(begun, B), b=form))
            self.assertEqual(one[0][:2], other[0][:2])
            self.assertEqual(one[1][0], other[1][0])
            self.clash(book(a=row(begun, C, begun, B), b=form, c=skip(begun)))

    def test_a_clash_of_what_stands_behind_a_name(self):
        either_or = either(EMPTY, COMMA)
        self.let(book(a=row(B, NUMBER, B), b=either_or))
        self.clash(book(a=row(B, NUMBER, B, COMMA), b=either_or))
        self.clash(book(a=row(B, B), b=either_or))
        self.clash(book(a=row(text("x"), C, COMMA), b=either_or, c=row(AB, B)))
        items = again(row(NUMBER, text(".")))
        self.clash(book(a=row(text("x"), C, items, again(COMMA)), b=either_or, c=row(AB, B)))
        self.let(book(a=row(text("x"), C, items), b=either_or, c=row(AB, B)))
        self.clash(book(a=counted(":", C), b=either_or, c=row(COMMA, B)))
        self.clash(book(a=again(C, COMMA), b=either_or, c=row(AB, B)))
        self.let(book(a=again(C, text(";")), b=either_or, c=row(AB, B)))

    def test_signs_that_come_from_far(self):
        names = "abcdefgh"
        begin = [(name, either(("named", names[at + 1]), text(name))) for at, name in enumerate(names[:-1])]
        self.let(("a", (*begin, ("h", text("h")))))
        for sign in "abcdefg":
            self.clash(("a", (*begin, ("h", text(sign)))))
            self.clash(("a", (*begin, ("h", either(text("h"), row(text(sign), text("x")))))))
        behind = [(name, row(text(name), ("named", names[at + 1]))) for at, name in enumerate(names[:-1])]
        for sign in "xyz":
            rows = (*behind, ("h", either(EMPTY, text("y"))), ("s", row(A, again(COMMA), text(sign))))
            (self.clash if sign == "y" else self.let)(("s", rows))
        empties = [(name, either(("named", names[at + 1]), text(name))) for at, name in enumerate(names[:-1])]
        for last in (EMPTY, again(COMMA), text("h"), either(text("h"), EMPTY)):
            for sign in "cx":
                rows = (*empties, ("h", last), ("s", row(A, text(sign))))
                may_be_empty = last != text("h")
                (self.clash if may_be_empty and sign == "c" else self.let)(("s", rows))
                (self.clash if may_be_empty else self.let)(("s", (*empties, ("h", last), ("s", either(A, EMPTY)))))

    def test_a_clash_that_needs_a_count_of_two(self):
        self.clash(book(a=row(counted(":", row(COMMA, either(EMPTY, COMMA))), text("."))))
        self.let(book(a=row(counted(":", row(COMMA, either(EMPTY, text(";")))), text("."))))
        self.clash(book(a=row(counted(":", row(COMMA, either(EMPTY, text(".")))), text("."))))

    def test_what_is_not_met_does_not_count(self):
        for form in CLASHES:
            self.let(book(a=NUMBER, b=form, c=B))
        self.let(book(a=NUMBER, b=B))
        self.let(book(a=NUMBER, b=row(NUMBER, A)))

    def test_endless(self):
        for form in IN_NEED:
            self.same(("endless", "a"), verdict, book(a=form, b=B))
        self.same(("endless", "b"), verdict, book(a=again(B), b=row(COMMA, B)))
        self.same(("endless", "c"), verdict, book(a=either(B, COMMA), b=again(C), c=("named", "d"), d=C))
        self.same(("endless", "aa"), verdict, book(c=C, a=row(COMMA, again(("named", "aa")), again(B)), aa=B, b=B))
        for form in CLASHES:
            asked = book(a=row(form, again(C)), b=B, c=C)
            self.same(("endless", "c"), verdict, asked)
            self.same(("endless", endless(asked)[0]), verdict, asked)

    def test_names_in_rings_let(self):
        self.let(book(a=row(text("("), again(A), text(")"))))
        self.let(book(a=either(row(text("x"), A), EMPTY)))
        self.let(book(a=either(row(text("x"), B), text("y")), b=either(row(text("z"), A), EMPTY)))
        self.let(book(a=again(either(NUMBER, row(text("["), A, text("]"))), COMMA)))
        self.let(book(a=row(B, either(row(text("+"), A), EMPTY)), b=row(C, either(row(text("*"), B), EMPTY)),
                      c=either(NUMBER, row(text("("), A, text(")")))))

    def test_names_in_rings_not_let(self):
        self.clash(book(a=either(A, EMPTY)))
        self.clash(book(a=either(A, COMMA)))
        self.clash(book(a=either(row(A, COMMA), EMPTY)))
        self.clash(book(a=either(row(A, COMMA), NUMBER)))
        self.clash(book(a=either(row(text("x"), A, A), EMPTY)))
        self.clash(book(a=either(row(text("x"), A, text("x")), EMPTY)))
        self.clash(book(a=either(row(B, NUMBER), EMPTY), b=either(row(C, COMMA), COMMA), c=row(A, AB)))
        self.clash(book(a=again(A)))
        self.clash(book(a=again(A, COMMA)))
        self.clash(book(a=row(B, text(".")), b=either(row(NUMBER, COMMA, B), row(NUMBER, COMMA), C), c=row(COMMA, B)))
        self.clash(book(a=row(text("if"), either(NUMBER, A), either(row(text("else"), A), EMPTY))))
        self.clash(book(a=row(B, either(row(text("+"), B, A), EMPTY)), b=either(NUMBER, row(A, text("x")))))

    def test_many_clashes(self):
        self.clash(book(a=row(*CLASHES)))
        self.clash(book(a=either(*CLASHES)))
        self.clash(book(a=row(*[row(B, form, C) for form in CLASHES]), b=again(either(A, C)),
                        c=either(B, ("word", SIGNS))))

    def test_as_large_as_books_may_be(self):
        names = "abcdefghijklmnop"
        rows = []
        for at, name in enumerate(names):
            behind = ("named", names[(at + 1) % 16])
            choice = either(row(text("<"), behind, behind, text(">")), again(NUMBER, COMMA), ("word", SIGNS[40:60]))
            rows.append((name, row(text(name), choice, text(";"))))
        self.let(("a", tuple(rows)))
        self.let(("a", tuple(rows[:15]) + (("p", row(rows[15][1], either(EMPTY, text("o")))),)))
        self.clash(("a", tuple(rows[:15]) + (("p", row(rows[15][1], either(EMPTY, text("p")))),)))
        deep = text("o")
        for _ in range(9):
            deep = counted(":", deep)
        self.let(book(a=row(*[deep] * 30)))
        deep = counted("1", COMMA)
        for _ in range(9):
            deep = counted(":", deep)
        self.clash(book(a=row(*[deep] * 30)))
        self.clash(book(a=row(*[again(("sign", SIGNS))] * 140)))


if __name__ == "__main__":
    unittest.main()
