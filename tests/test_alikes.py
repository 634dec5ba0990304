"""Names with alike forms [22]."""

import unittest

from readtell.alikes import alike_names
from readtell.looking import verdict
from tests.asking import Asking
from tests.making import Maker
from tests.samples import (
    A, AB, B, COMMA, EMPTY, LET_BOOKS, NUMBER, VALUES, WORD, again, book, counted, either, row, skip, text,
)
from tests.test_forms import FORMS, within
from tests.test_holding import OTHERWISE

C = ("named", "c")
D = ("named", "d")
X = text("x")


def alone(*names):
    return tuple((name,) for name in names)


class AlikeNames(Asking):
    def test_the_same_forms(self):
        self.same((("a",),), alike_names, book(a=NUMBER))
        self.same((("a", "b"),), alike_names, book(a=NUMBER, b=NUMBER))
        self.same((("a", "c"), ("b",)), alike_names, book(a=NUMBER, b=WORD, c=NUMBER))
        self.same((("a",), ("b", "c")), alike_names, book(a=NUMBER, b=WORD, c=WORD))
        self.same((("a", "d"), ("b", "e"), ("c",)), alike_names, book(a=NUMBER, b=WORD, c=AB, d=NUMBER, e=WORD))
        self.same((("a", "aa", "b", "ba"),), alike_names, book(a=X, aa=X, b=X, ba=X))
        self.same(alone("a", "aa", "b", "ba"), alike_names, book(a=X, aa=text("xx"), b=row(X), ba=skip(X)))

    def test_each_word(self):
        for form in FORMS:
            if form[0] not in ("named", "turned"):
                self.same((("a", "b"),), alike_names, book(a=form, b=form))
        for at, form in enumerate(FORMS):
            for other in FORMS[:at]:
                if "named" not in (form[0], other[0]) and "turned" not in (form[0], other[0]):
                    self.same((("a",), ("b",)), alike_names, book(a=form, b=other))
        turned = [("turned", NUMBER, pairs) for pairs in (((0, 1),), ((1, 0),), ((0, 1), (2, 3)), ((2, 3), (0, 1)))]
        for at, form in enumerate(turned):
            for by, other in enumerate(turned):
                self.same((("a", "b"),) if at == by else alone("a", "b"), alike_names, book(a=form, b=other))

    def test_what_has_the_same_texts_but_other_forms(self):
        for one, other in OTHERWISE:
            self.same(alone("a", "b"), alike_names, book(a=one, b=other))

    def test_names_within(self):
        for form in within(B):
            other = put_in(form, C)
            if form[0] != "turned":
                self.same((("a", "d"), ("b", "c")), alike_names, book(a=form, b=AB, c=AB, d=other))
                self.same(alone("a", "b", "c", "d"), alike_names, book(a=form, b=AB, c=COMMA, d=other))
                self.same((("a", "d"), ("b",), ("c",)), alike_names, book(a=form, b=AB, c=COMMA, d=form))

    def test_either_of_other_names(self):
        self.same(alone("a", "b"), alike_names, book(a=("either", (("p", AB),)), b=("either", (("q", AB),))))
        self.same(alone("a", "b"), alike_names, book(a=either(AB, COMMA), b=either(COMMA, AB)))

    def test_that_differ_only_far_down(self):
        for last, told in ((X, (("a", "b"),)), (text("y"), alone("a", "b"))):
            one, other = X, last
            for wrap in (skip, row, either, again, lambda form: counted(":", form), lambda form: row(AB, form), skip, row):
                one, other = wrap(one), wrap(other)
            self.same(told, alike_names, book(a=one, b=other))
        # By names, each within the next one.
        for many in range(1, 8):
            forms = {}
            for at in range(many):
                forms["a" + chr(97 + at)] = row(COMMA, ("named", "a" + chr(98 + at)))
                forms["b" + chr(97 + at)] = row(COMMA, ("named", "b" + chr(98 + at)))
            for end, told in ((X, True), (text("y"), False)):
                asked = book(a=A, **forms, **{"a" + chr(97 + many): X, "b" + chr(97 + many): end})
                groups = alike_names(asked)
                for at in range(many + 1):
                    pair = ("a" + chr(97 + at), "b" + chr(97 + at))
                    self.assertEqual(pair in groups, told)
                    self.assertEqual((pair[0],) in groups, not told)

    def test_rings(self):
        ring = {"a": row(X, B), "b": row(X, A), "c": row(X, C)}
        self.same((("a", "b", "c"),), alike_names, book(**ring))
        self.same((("a", "b", "c"), ("d",)), alike_names, book(**ring, d=row(text("y"), D)))
        self.same((("a", "b", "c", "d"),), alike_names, book(**ring, d=row(X, A)))
        # Rings of two and of three names, of four and of six.
        self.same((("a", "b", "c", "d", "e"),), alike_names, book(
            a=row(X, B), b=row(X, A), c=row(X, D), d=row(X, ("named", "e")), e=row(X, C)))
        forms = {}
        for start, many in (("p", 4), ("q", 6)):
            for at in range(many):
                forms[start + chr(97 + at)] = row((X, COMMA)[at % 2], ("named", start + chr(97 + (at + 1) % many)))
        self.same((("a",), ("pa", "pc", "qa", "qc", "qe"), ("pb", "pd", "qb", "qd", "qf")), alike_names, book(a=NUMBER, **forms))
        forms["qd"] = row(COMMA, X, ("named", "qe"))
        self.same(alone("a") + (("pa", "pc"), ("pb", "pd")) + alone("qa", "qb", "qc", "qd", "qe", "qf"), alike_names,
                  book(a=NUMBER, **forms))

    def test_names_that_lead_to_one_another(self):
        self.same((("a",),), alike_names, book(a=A))
        self.same((("a", "b"),), alike_names, book(a=B, b=A))
        self.same((("a", "b", "c"),), alike_names, book(a=B, b=A, c=C))
        self.same((("a",), ("b",)), alike_names, book(a=B, b=NUMBER))
        self.same((("a", "c"), ("b", "d")), alike_names, book(a=B, b=NUMBER, c=D, d=NUMBER))
        self.same(alone("a", "b", "c"), alike_names, book(a=B, b=C, c=NUMBER))
        self.same((("a", "b", "c"), ("d",)), alike_names, book(a=B, b=A, c=A, d=row(A)))

    def test_names_that_are_not_met(self):
        self.same((("a",), ("b", "c")), alike_names, book(a=NUMBER, b=row(B), c=row(C)))
        self.same((("a", "b"), ("c",)), alike_names, book(a=NUMBER, b=NUMBER, c=row(C)))
        self.same((("a", "b"),), alike_names, ("b", (("a", NUMBER), ("b", NUMBER))))

    def test_books_that_are_not_let(self):
        for clash in (either(COMMA, COMMA), again(EMPTY), row(again(AB), AB)):
            asked = book(a=row(B, C), b=clash, c=clash)
            self.assertNotEqual(verdict(asked), ("let",))
            self.same((("a",), ("b", "c")), alike_names, asked)

    def test_whole_books(self):
        self.same(alone("blanks", "list", "number", "string", "table", "value"), alike_names, VALUES)
        for asked in LET_BOOKS:
            self.same(groups_by_words(asked), alike_names, asked)

    def test_small_books(self):
        many = 0
        for seed in range(500):
            maker = Maker(seed)
            maker.names = list("abcd")
            rows = tuple((name, maker.form(maker.chance.choice((0, 0, 1)))) for name in "abcd")
            asked = ("a", rows + (("e", rows[seed % 4][1]),))
            groups = self.told(alike_names, asked)
            self.assertEqual(groups, groups_by_words(asked))
            many += len(groups) < 4
        self.assertGreater(many, 20)


def put_in(form, other):
    """The form with the other one for each name b in it."""
    if form == B:
        return other
    if isinstance(form, tuple):
        return tuple(put_in(part, other) for part in form)
    return form


def groups_by_words(asked):
    """The groups of alike names by pairs: those that nothing shows to be unlike."""
    table = dict(asked[1])
    names = sorted(table)
    unlike = set()
    more = True
    while more:
        more = False
        for one in names:
            for other in names:
                if (one, other) not in unlike and not may_be_alike(table[one], table[other], unlike):
                    unlike.add((one, other))
                    more = True
    groups = {tuple(other for other in names if (one, other) not in unlike) for one in names}
    return tuple(sorted(groups))


def may_be_alike(one, other, unlike):
    if isinstance(one, tuple) and isinstance(other, tuple):
        if one[:1] == other[:1] == ("named",) and len(one) == len(other) == 2 and is_named(one) and is_named(other):
            return (one[1], other[1]) not in unlike
        return len(one) == len(other) and all(may_be_alike(mine, yours, unlike) for mine, yours in zip(one, other))
    return type(one) is type(other) and one == other


def is_named(form):
    return isinstance(form[1], str)


if __name__ == "__main__":
    unittest.main()
