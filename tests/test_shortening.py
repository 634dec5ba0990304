"""Shorter books [22, 3 (g)]."""

import unittest

from readtell.alikes import alike_names
from readtell.books import is_book, names_met
from readtell.counting import how_many
from readtell.errors import Fails, FormError, NoText
from readtell.going import goes_on
from readtell.holding import held
from readtell.looking import verdict
from readtell.numbering import text_at
from readtell.reading import read, way_of
from readtell.shortening import shorter
from readtell.spans import spans
from readtell.telling import tell
from tests.asking import Asking
from tests.brute import walks_of
from tests.making import Maker
from tests.samples import (
    A, AB, B, BLANKS, BRACKETS, COMMA, EMPTY, LET_BOOKS, MAYBE, NUMBER, PICK, SPELT, SUMS, TOLD, VALUES, WORD, again, book,
    counted, either, row, skip, text,
)
from tests.test_forms import SIGNS

C = ("named", "c")
D = ("named", "d")
X = text("x")
Y = text("y")
NO_SIGNS = skip(EMPTY)

# A form and what it becomes, alone in a book or within other forms.
CHANGED = (
    (skip(X), X), (skip(skip(X)), X), (skip(skip(skip(X))), X), (skip(skip(NUMBER)), skip(NUMBER)),
    (skip(skip(skip(EMPTY))), NO_SIGNS), (skip(skip(again(skip(skip(AB))))), skip(again(skip(AB)))),
    (row(X, Y), row(text("xy"))), (row(X, Y, X), row(text("xyx"))), (row(text("a" * 12), text("b" * 12)), row(text("a" * 12 + "b" * 12))),
    (row(AB, X, Y, AB, Y, Y, Y), row(AB, text("xy"), AB, text("yyy"))), (row(X, skip(Y), X), row(text("xyx"))),
    (row(skip(skip(X)), skip(Y), AB), row(text("xy"), AB)), (row(X, EMPTY, Y), row(X, EMPTY, Y)),
    (row(X, row(Y, X), Y), row(X, row(text("yx")), Y)), (row(X, skip(row(Y, X)), Y), row(X, skip(row(text("yx"))), Y)),
    (row(X, NO_SIGNS, Y), row(X, NO_SIGNS, Y)), (row(*[X] * 40), row(text("x" * 40))),
    (skip(row(X, Y)), skip(row(text("xy")))), (skip(row(X)), skip(row(X))), (row(skip(X)), row(X)),
    (either(skip(X), skip(skip(Y)), AB), either(X, Y, AB)), (either(row(X, Y), Y), either(row(text("xy")), Y)),
    (again(skip(X)), again(X)), (again(skip(X), skip(Y)), again(X, Y)), (again(AB, skip(skip(AB))), again(AB, skip(AB))),
    (again(AB, skip(text("xy"))), again(AB, text("xy"))), (again(row(X, skip(Y)), skip(X)), again(row(text("xy")), X)),
    (counted(":", skip(X)), counted(":", X)), (counted(":", row(X, Y)), counted(":", row(text("xy")))),
    (("turned", row(skip(X), Y, NUMBER), (((0,), (1,)),)), ("turned", row(text("xy"), NUMBER), (((0,), (1,)),))),
    (row(row(row(X, X), skip(row(skip(Y), skip(skip(X))))), Y, skip(X)),
     row(row(row(text("xx")), skip(row(text("yx")))), text("yx"))),
    (row(text("a"), text("b"), skip(either(X, skip(skip(Y)))), text("c"), text("d")), row(text("ab"), skip(either(X, Y)), text("cd"))),
)

# What stands around a form.
OUTER = (
    lambda form: row(COMMA, form, COMMA), lambda form: either(row(COMMA, form)), lambda form: counted(",", row(form, COMMA)),
    lambda form: again(row(COMMA, form, COMMA)), lambda form: skip(row(form)), lambda form: again(COMMA, skip(row(form, COMMA))),
)

# Forms that stay as they are.
STAYING = (
    X, AB, WORD, NUMBER, PICK, SPELT, EMPTY, row(X), row(EMPTY), row(row(X)), row(X, row(Y)), row(row(X), Y), row(row(X), row(Y)),
    either(X), either(X, Y), row(X, either(Y), X), row(X, either(Y, AB), X), row(X, again(Y), AB), row(X, again(AB, Y), X), again(X),
    again(X, Y), again(AB, skip(AB)), skip(AB), skip(EMPTY), skip(row(X)), skip(row(AB, X)), skip(either(X, Y)), skip(again(X)),
    skip(again(X, Y)), counted(":", X), row(X, counted("y", Y)), row(counted("y", X), text("1")), row(X, NO_SIGNS), row(skip(AB), X),
    row(X, skip(either(X)), Y), row(X, ("pick", (("y", 1),)), Y), row(X, ("sign", "y"), Y), ("turned", NUMBER, ((0, 1),)),
    ("turned", row(X, NUMBER), (((0,), (1,)),)), ("spelt", ("pick", (("xa", "a"), ("xb", "b")))), MAYBE, BLANKS,
)


def canon(asked):
    """The book with names in the order in which one comes to them from its start."""
    table = dict(asked[1])
    order = {asked[0]: "n0"}
    todo = [asked[0]]

    def taken(form):
        if form[0] == "named" and len(form) == 2:
            if form[1] not in order:
                order[form[1]] = "n" + str(len(order))
                todo.append(form[1])
            return ("named", order[form[1]])
        if form[0] in ("skip", "spelt"):
            return (form[0], taken(form[1]))
        if form[0] == "row":
            return ("row", tuple(taken(inner) for inner in form[1]))
        if form[0] == "either":
            return ("either", tuple((name, taken(inner)) for name, inner in form[1]))
        if form[0] == "again":
            return ("again", taken(form[1]), form[2] and taken(form[2]))
        if form[0] == "counted":
            return ("counted", form[1], taken(form[2]))
        if form[0] == "turned":
            return ("turned", taken(form[1]), form[2])
        return form

    rows = {}
    for name in todo:
        rows[order[name]] = taken(table[name])
    return rows


class Shorter(Asking):
    def shorter(self, asked, wanted):
        """The book becomes what is wanted, but for names."""
        self.assertEqual((is_book(asked), verdict(asked), is_book(wanted)), (True, ("let",), True))
        found = self.checked(asked)
        self.assertEqual(canon(found), canon(wanted), asked)
        self.assertEqual(len(found[1]), len(wanted[1]))
        return found

    def checked(self, asked):
        found = self.told(shorter, asked)
        self.assertIs(is_book(found), True)
        self.assertEqual(verdict(found), ("let",))
        self.assertEqual(names_met(found), tuple(name for name, _ in found[1]))
        self.assertEqual([name for name, _ in found[1]], sorted(set(name for name, _ in found[1])))
        self.assertTrue(set(name for name, _ in found[1]) <= set(name for name, _ in asked[1]))
        self.assertTrue(all(len(group) == 1 for group in alike_names(found)))
        self.assertFalse(any(form[0] == "named" for _, form in found[1]))
        self.same(found, shorter, found)
        return found

    def test_forms(self):
        for form, wanted in CHANGED:
            self.shorter(book(a=form), book(a=wanted))
            self.shorter(book(a=row(text("<"), B, text(";"), B), b=form), book(a=row(text("<"), B, text(";"), B), b=wanted))
            for outer in OUTER:
                asked = book(a=outer(form))
                if verdict(asked) == ("let",) and form[0] != "skip":
                    self.shorter(asked, book(a=outer(wanted)))

    def test_forms_that_stay(self):
        for form in STAYING:
            asked = book(a=form)
            self.same(asked, shorter, asked)
            asked = book(a=row(text("<"), B, text(">")), b=form)
            self.same(asked, shorter, asked)

    def test_texts_that_come_to_stand_beside_one_another(self):
        self.shorter(book(a=row(X, skip(skip(skip(X))), Y)), book(a=row(text("xxy"))))
        self.shorter(book(a=row(skip(X), AB, skip(skip(Y)), X)), book(a=row(X, AB, text("yx"))))
        # A row or a name with a text alone is no text.
        self.same(book(a=row(X, row(Y), X)), shorter, book(a=row(X, row(Y), X)))
        self.same(book(a=row(X, B, X), b=Y), shorter, book(a=row(X, B, X), b=Y))
        self.shorter(book(a=row(X, skip(B), X), b=skip(Y)), book(a=row(X, skip(B), X), b=Y))

    def test_names_that_lead_to_others(self):
        self.shorter(book(a=B, b=NUMBER), book(a=NUMBER))
        self.shorter(book(a=B, b=C, c=D, d=NUMBER), book(a=NUMBER))
        self.shorter(book(a=row(B, COMMA), b=C, c=NUMBER), book(a=row(B, COMMA), b=NUMBER))
        self.shorter(book(a=row(B, COMMA, C), b=C, c=NUMBER), book(a=row(B, COMMA, B), b=NUMBER))
        self.shorter(("d", (("a", NUMBER), ("b", A), ("c", B), ("d", C))), book(a=NUMBER))
        self.same(("a", (("a", NUMBER),)), shorter, ("d", (("a", NUMBER), ("b", A), ("c", B), ("d", C))))
        # Through a row, a choice or a skip no name leads.
        for form in (row(B), either(B), skip(B), again(B), counted(":", B), ("turned", B, ((0, 1),))):
            self.same(book(a=form, b=NUMBER), shorter, book(a=form, b=NUMBER))
        asked = book(a=row(text("("), again(B), text(")")), b=C, c=D, d=A)
        self.shorter(asked, BRACKETS)

    def test_names_with_alike_forms(self):
        self.shorter(book(a=row(B, COMMA, C), b=NUMBER, c=NUMBER), book(a=row(B, COMMA, B), b=NUMBER))
        self.shorter(book(a=row(B, COMMA, C, D), b=row(AB, D), c=row(AB, D), d=AB), book(a=row(B, COMMA, B, C), b=row(AB, C), c=AB))
        ring = book(a=row(text("("), again(B), text(")")), b=row(text("("), again(A), text(")")))
        self.shorter(ring, BRACKETS)
        self.shorter(("b", ring[1]), BRACKETS)
        three = book(a=row(text("("), again(B), text(")")), b=row(text("("), again(C), text(")")), c=row(text("("), again(A), text(")")))
        for start in "abc":
            self.shorter((start, three[1]), BRACKETS)
        two_rings = book(a=row(text("<"), B, COMMA, D), b=either(NUMBER, row(COMMA, C)), c=either(NUMBER, row(COMMA, B)),
                         d=either(NUMBER, row(COMMA, D)))
        self.shorter(two_rings, book(a=row(text("<"), B, COMMA, B), b=either(NUMBER, row(COMMA, B))))
        # Alike only by what was changed first.
        self.shorter(book(a=row(B, COMMA, C), b=row(skip(X), Y), c=row(X, skip(skip(Y)))), book(a=row(B, COMMA, B), b=row(text("xy"))))
        self.shorter(book(a=row(B, COMMA, C), b=row(AB, D), c=row(AB, ("named", "e")), d=("named", "e"), e=AB),
                     book(a=row(B, COMMA, B), b=row(AB, C), c=AB))
        # Unlike ones stay, though they have the same texts.
        for one, other in ((NUMBER, row(NUMBER)), (either(COMMA, AB), either(AB, COMMA)), (AB, either(text("a"), text("b")))):
            asked = book(a=row(B, X, C), b=one, c=other)
            self.same(asked, shorter, asked)

    def test_names_that_are_not_met(self):
        self.shorter(book(a=NUMBER, b=AB, c=row(B, D), d=A), book(a=NUMBER))
        self.shorter(book(a=NUMBER, b=NUMBER), book(a=NUMBER))
        # Ones without a text, or that aren't let.
        self.shorter(book(a=NUMBER, b=C, c=B, d=row(D, X)), book(a=NUMBER))
        self.shorter(book(a=NUMBER, b=either(X, X), c=again(EMPTY), d=B), book(a=NUMBER))
        # Ones that aren't met any more.
        self.shorter(book(a=row(B, COMMA), b=C, c=row(D), d=NUMBER), book(a=row(B, COMMA), b=row(C), c=NUMBER))
        self.shorter(book(a=row(B, X, C), b=AB, c=D, d=AB), book(a=row(B, X, B), b=AB))

    def test_all_of_them(self):
        names = {"e": ("named", "f"), "f": row(skip(skip(X)), Y, skip(either(B, D))), "b": C, "c": row(NUMBER, skip(X), Y),
                 "d": row(AB, skip(Y)), "g": row(A, A)}
        asked = book(a=either(row(text("<"), ("named", "e")), row(text(">"), ("named", "h")), row(text("!"), ("named", "j"))),
                     h=row(text("xy"), skip(either(C, ("named", "i")))), i=row(AB, Y), j=row(NUMBER, text("x"), text("y")), **names)
        self.shorter(asked, book(
            a=either(row(text("<"), B), row(text(">"), B), row(text("!"), C)), b=row(text("xy"), skip(either(C, D))),
            c=row(NUMBER, text("xy")), d=row(AB, Y)))


class ReadsAlike(Asking):
    """A shorter book reads and tells all as the book does."""

    def test_whole_books(self):
        long_rows = book(a=row(*[skip(skip(text(sign))) for sign in SIGNS[1:40]], B, text(";"), C), b=again(C, skip(COMMA)), c=D,
                         d=row(skip(X), Y, ("named", "e")), e=either(EMPTY, row(skip(text("(")), C, text(")"))))
        more = (
            (VALUES[0], VALUES[1] + (("void", ("named", "value")),)), ("top", tuple(sorted(SUMS[1] + (("top", ("named", "sum")),)))),
            long_rows,
            book(a=row(B, skip(skip(X)), Y, C), b=again(AB, skip(skip(skip(COMMA)))), c=("turned", row(skip(X), NUMBER, Y), (((0,), (5,)),))),
        )
        for asked in LET_BOOKS + more:
            self.alike(asked, [told for one, told, _ in TOLD if one == asked], 40)

    def test_small_books(self):
        many = 0
        for seed in range(5000, 5300):
            maker = Maker(seed)
            asked = maker.book()
            if verdict(asked) == ("let",):
                many += shorter(asked) != asked
                self.alike(asked, [], 20)
        self.assertGreater(many, 60)

    def alike(self, asked, texts, many):
        self.assertEqual(verdict(asked), ("let",))
        found = shorter(asked)
        self.assertEqual(shorter(found), found)
        self.assertEqual((is_book(found), verdict(found)), (True, ("let",)))
        self.assertEqual(how_many(found, "", 12), how_many(asked, "", 12))
        for k in range(many):
            try:
                texts.append(text_at(asked, k, 12))
            except NoText:
                break
        for told in texts:
            self.assertEqual(way_of(found, told), way_of(asked, told))
            worth = read(asked, told)
            self.assertEqual(read(found, told), worth)
            self.assertEqual(tell(found, worth), tell(asked, worth))
            self.assertEqual(spans(found, told), spans(asked, told))
        for told in texts[:8] + texts[-4:]:
            for other in [told[:at] + more + told[at + 1:] for at in range(len(told) + 1) for more in ("", "x", ",", "7")][:60]:
                self.assertEqual(outcome(read, found, other), outcome(read, asked, other))
                self.assertEqual(goes_on(found, other), goes_on(asked, other))
        answer = held(asked, found, 2000)
        self.assertEqual(answer[0], "alike")

    def test_walks(self):
        for seed in range(5300, 5420):
            asked = Maker(seed).book()
            if verdict(asked) == ("let",):
                walks = sorted(walks_of(asked, 3, 5), key=repr)
                self.assertEqual(walks, sorted(walks_of(shorter(asked), 3, 5), key=repr))


def outcome(function, *handed):
    try:
        return function(*handed)
    except FormError as refused:
        return (type(refused) is Fails, sorted(vars(refused).items()))


if __name__ == "__main__":
    unittest.main()
