"""Papers for two books [20, 3 (f)]."""

import unittest

from readtell.alikepapers import shows_alike
from readtell.holding import held
from tests.asking import OTHER_KINDS, Asking, Odd, nested
from tests.pairs_by_words import is_paper
from tests.samples import (
    A, AB, B, BRACKETS, COMMA, COUNTS, EMPTY, LET_BOOKS, MAYBE, NUMBER, PICK, SUMS, VALUES, WORD, again, book, counted,
    either, row, skip, text,
)
from tests.test_forms import NO_FORMS, SIGNS
from tests.words import all_begin, rest_behind

CLOSE = text(")")
BEGUN = ((A,), (A,))
# A paper for brackets and themselves, of single items.
ITEMS = (BEGUN, ((again(A),), (again(A),)), ((CLOSE,), (CLOSE,)))
# A paper of whole rests: two of them, one behind another, are what comes behind a bracket.
WHOLE = (BEGUN, ((again(A), CLOSE), (again(A), CLOSE)))

END = text(";")
MANY = again(row(COMMA, A, END))

# Two forms, and a paper for the books of them, no pair of which can be left out.
BY_HAND = (
    (text("a"), text("a"), (BEGUN,)),
    (EMPTY, row(EMPTY, EMPTY), (BEGUN,)),
    (text("ab"), row(text("a"), text("b")), (BEGUN, ((text("b"),), (text("b"),)))),
    (text("abc"), row(row(text("a"), text("b")), text("c")), (
        BEGUN, ((text("bc"),), (text("b"), text("c"))), ((text("c"),), (text("c"),)))),
    (row(text("ab"), text("cd"), text("e")), row(text("abc"), text("de")), (
        BEGUN, ((text("b"), text("cd"), text("e")), (text("bc"), text("de"))), ((text("cd"), text("e")), (text("c"), text("de"))),
        ((text("d"), text("e")), (text("de"),)), ((text("e"),), (text("e"),)))),
    (row(COMMA, EMPTY), COMMA, (BEGUN, ((EMPTY,), ()))),
    (row(COMMA, EMPTY, AB), row(COMMA, AB, EMPTY), (
        BEGUN, ((EMPTY,), ()), ((AB,), (AB,)), ((), (EMPTY,)))),
    (row(COMMA, EMPTY, AB), row(COMMA, AB, EMPTY), (BEGUN, ((EMPTY, AB), (AB, EMPTY)), ((), (EMPTY,)))),
    (either(COMMA, AB), either(AB, COMMA), (BEGUN,)),
    (row(either(AB, EMPTY), COMMA), either(COMMA, row(AB, COMMA)), (BEGUN, ((COMMA,), (COMMA,)))),
    (WORD, row(AB, ("spelt", AB)), (BEGUN, ((("spelt", AB),), (("spelt", AB),)))),
    (again(AB), ("spelt", AB), (BEGUN, ((again(AB),), (("spelt", AB),)))),
    (again(AB, COMMA), either(EMPTY, row(AB, again(row(COMMA, AB)))), (
        BEGUN, ((again(row(COMMA, AB)),), (again(row(COMMA, AB)),)), ((AB,), (AB,)))),
    (NUMBER, either(text("0"), row(("sign", "123456789"), ("spelt", ("sign", "0123456789")))), (
        BEGUN, ((("spelt", ("sign", "0123456789")),), (("spelt", ("sign", "0123456789")),)))),
    (PICK, either(row(text("a"), either(text("b"), text("c"))), text("b")), (
        BEGUN, ((("left", ("b", "c")),), (either(text("b"), text("c")),)))),
    (MANY, MANY, (BEGUN, ((MANY,), (MANY,)), ((END, MANY), (END, MANY)))),
)

DUE = ("due", 1, ":", AB)
LEFT = ("left", ("b", "ca"))

# Items spoilt in each of their parts, and what stands where an item should.
NO_ITEMS = (
    ("left",), ("left", ()), ("left", ("",)), ("left", ("b", "")), ("left", ["b"]), ("left", "b"), ("left", ("c", "b")),
    ("left", ("b", "b")), ("left", ("b", "bc")), ("left", ("b", "c", "cd")), ("left", ("b", 1)), ("left", ("b", None)),
    ("left", ("b",), 1), ("left", (("b",),)), ("left", None), ("left", {"b": 1}), ("left", ("\t",)),
    ("left", ("b" + chr(37),)),
    ("due",), ("due", 1, ":"), ("due", 0, ":", AB), ("due", 10, ":", AB), ("due", -1, ":", AB), ("due", True, ":", AB),
    ("due", 1.0, ":", AB), ("due", "1", ":", AB), ("due", None, ":", AB), ("due", 1, "", AB), ("due", 1, "\t", AB),
    ("due", 1, None, AB), ("due", 1, (":",), AB), ("due", 1, 1, AB), ("due", 1, ":", None), ("due", 1, ":", ("sign", "")),
    ("due", 1, ":", "a"), ("due", 1, ":", LEFT), ("due", 1, ":", AB, AB), ["due", 1, ":", AB], ("due", 1, ":", ["sign", "ab"]),
    ("Left", ("b",)), ("", ("b",)), (None, ("b",)), (("left",), ("b",)), ["left", ("b",)], ("rest", ()), "left", (), ((),),
)


# Pairs with all that may come behind a sign of these, and of what is nearly an item.
COMPANY = ITEMS + tuple(((item,), (item,)) for item in (
    DUE, LEFT, AB, COMMA, text(":"), text("a"), text("b"), text("c"), ("left", ("a",)), ("left", ("c",)), ("left", ("d",)),
))


def is_left(x):
    return isinstance(x, tuple) and len(x) == 2 and x[0] == "left"


class ByHand(Asking):
    def test_papers(self):
        for one, other, paper in BY_HAND:
            self.paper(book(a=one), book(a=other), paper)

    def test_of_items_and_of_whole_rests(self):
        self.paper(BRACKETS, BRACKETS, ITEMS)
        self.paper(BRACKETS, BRACKETS, WHOLE)

    def paper(self, one, other, paper):
        self.assertTrue(is_paper(one, other, paper))
        self.yes(shows_alike, one, other, paper)
        self.yes(shows_alike, one, other, paper[::-1])
        self.yes(shows_alike, one, other, paper + paper[-1:])
        self.yes(shows_alike, one, other, paper[:1] + paper)
        self.yes(shows_alike, one, other, paper + (((), ()),))
        self.yes(shows_alike, other, one, tuple((yours, mine) for mine, yours in paper))
        for at in range(len(paper)):
            self.no(shows_alike, one, other, paper[:at] + paper[at + 1:])
        self.no(shows_alike, one, other, list(paper))
        self.no(shows_alike, one, other, paper[:-1] + (list(paper[-1]),))
        self.no(shows_alike, one, other, paper[:-1] + ((list(paper[-1][0]), paper[-1][1]),))
        self.no(shows_alike, one, other, paper[:-1] + ((paper[-1][0], list(paper[-1][1])),))
        self.no(shows_alike, one, other, paper[:-1] + (paper[-1] + ((),),))

    def test_turned_or_not(self):
        one, other = book(a=text("ab")), ("b", (("b", row(text("a"), text("b"))),))
        paper = (((A,), (B,)), ((text("b"),), (text("b"),)))
        self.yes(shows_alike, one, other, paper)
        self.no(shows_alike, other, one, paper)
        self.no(shows_alike, one, one, paper)
        self.yes(shows_alike, other, one, tuple((yours, mine) for mine, yours in paper))
        uneven = (BEGUN, ((EMPTY,), ()))
        self.yes(shows_alike, book(a=row(COMMA, EMPTY)), book(a=COMMA), uneven)
        self.no(shows_alike, book(a=COMMA), book(a=row(COMMA, EMPTY)), uneven)

    def test_other_books(self):
        for one, other, paper in BY_HAND:
            self.no(shows_alike, book(a=one), book(a=text("zz")), paper)
            self.no(shows_alike, book(a=text("zz")), book(a=other), paper)
            self.no(shows_alike, BRACKETS, book(a=other), paper)
        self.no(shows_alike, BRACKETS, book(a=row(text("("), again(A), text("]"))), ITEMS)

    def test_pairs_that_go_apart(self):
        spoiling = (
            # One may end and the other not, though both want the same.
            ((AB,), (either(AB, EMPTY),)), ((again(COMMA),), (row(COMMA, again(COMMA)),)), ((), (COMMA,)), ((EMPTY,), (AB,)),
            ((COMMA,), ()),
            # Unlike signs are wanted.
            ((COMMA,), (CLOSE,)), ((AB,), (("sign", "a"),)), ((AB,), (("sign", "abc"),)), ((), (MAYBE,)), ((MAYBE,), (again(AB),)),
            # All is well but what comes behind a sign.
            ((text("ab"),), (text("ac"),)), ((text("ab"),), (text("a"),)), ((row(AB, COMMA),), (row(AB, AB),)),
        )
        for paper in (ITEMS, WHOLE):
            for pair in spoiling:
                self.no(shows_alike, BRACKETS, BRACKETS, paper + (pair,))
                self.no(shows_alike, BRACKETS, BRACKETS, (pair,) + paper)

    def test_pairs_that_no_one_asked_for(self):
        for pair in (((COMMA,), (COMMA,)), ((NUMBER, skip(COMMA)), (("word", "1"),)), ((text("x"),), (text("y"),))):
            more = ITEMS + (pair,)
            self.assertEqual(shows_alike(BRACKETS, BRACKETS, more), is_paper(BRACKETS, BRACKETS, more))
        more = ((LEFT,), (either(text("b"), text("ca")),)), ((("left", ("a",)),), (text("a"),))
        self.yes(shows_alike, BRACKETS, BRACKETS, ITEMS + more)
        self.no(shows_alike, BRACKETS, BRACKETS, ITEMS + more[:1])
        due = (((DUE,), (DUE,)), ((text(":"),), (text(":"),)), ((AB,), (AB,)))
        self.yes(shows_alike, BRACKETS, BRACKETS, ITEMS + due)
        for at in range(1, 3):
            self.no(shows_alike, BRACKETS, BRACKETS, ITEMS + due[:at] + due[at + 1:])
        # Things that are no worths make a turned form no book's, but a form it is.
        turned = ("turned", NUMBER, (("x", ()),))
        spelt = ("spelt", ("sign", "0123456789"))
        self.yes(shows_alike, BRACKETS, BRACKETS, ITEMS + (((turned,), (NUMBER,)), ((spelt,), (spelt,))))

    def test_single_figures_that_are_due(self):
        form = counted(":", AB)
        asked = book(a=form)
        items = [text(":"), AB] + [("due", figure, ":", AB) for figure in range(1, 10)]
        paper = (BEGUN,) + tuple(((item,), (item,)) for item in items)
        self.yes(shows_alike, asked, asked, paper)
        for at in range(len(paper)):
            self.no(shows_alike, asked, asked, paper[:at] + paper[at + 1:])
        other = ("due", 2, ":", AB)
        self.no(shows_alike, asked, asked, paper + (((DUE,), (other,)),))


class Spoilt(Asking):
    def test_other_kinds(self):
        for x in OTHER_KINDS + ("", "a", 0, 1, (), ((),), ("alike", ITEMS), BEGUN, BEGUN[0], (A,), A, nested((), 80)):
            self.no(shows_alike, BRACKETS, BRACKETS, x)
        for x in OTHER_KINDS + ("", "a", 0, 1, ((),), ("named",), nested(A, 78)):
            self.no(shows_alike, BRACKETS, BRACKETS, ITEMS + (x,))
            self.no(shows_alike, BRACKETS, BRACKETS, (x,) + ITEMS)
            for pair in ((x, ()), ((), x), (x, x), ((x,), (x,)), (BEGUN[0], (x,)), ((x,), BEGUN[1])):
                self.no(shows_alike, BRACKETS, BRACKETS, ITEMS + (pair,))

    def test_no_items(self):
        self.yes(shows_alike, BRACKETS, BRACKETS, COMPANY)
        for x in NO_ITEMS + tuple(x for x in NO_FORMS if not is_left(x)):
            for pair in (((x,), (x,)), ((x,), (CLOSE,)), ((CLOSE,), (x,)), ((CLOSE, x), (CLOSE, x)), ((skip(x),), (skip(x),))):
                self.no(shows_alike, BRACKETS, BRACKETS, COMPANY + (pair,))
        for first in (Odd(), Odd, ["due"], [], {}, None, 1, b"due"):
            for x in ((first, 1, ":", AB), (first, ("b",)), (first,)):
                self.no(shows_alike, BRACKETS, BRACKETS, COMPANY + (((x,), (x,)),))

    def test_items(self):
        for figure in range(1, 10):
            due = ("due", figure, "<>", COMMA)
            behind = (((text("<>"),), (text("<>"),)), ((text(">"),), (text(">"),)), ((COMMA,), (COMMA,)))
            self.yes(shows_alike, BRACKETS, BRACKETS, ITEMS + (((due,), (due,)),) + behind)
        left = ("left", tuple(SIGNS))
        self.yes(shows_alike, BRACKETS, BRACKETS, ITEMS + (((left,), (("sign", SIGNS),)),))

    def test_names(self):
        asked = book(a=row(text("("), again(A), CLOSE), c=text(")"))
        for name in ("b", "c", "aa"):
            named = ("named", name)
            for item in (named, row(EMPTY, named), ("due", 1, ":", named), again(row(COMMA, named)), either(COMMA, named)):
                self.no(shows_alike, asked, asked, ITEMS + (((item,), (item,)),))
                self.no(shows_alike, asked, asked, ITEMS + (((item,), (CLOSE,)),))
                self.no(shows_alike, asked, asked, ITEMS + (((CLOSE,), (item,)),))
        self.yes(shows_alike, asked, asked, ITEMS)
        # Each side by the names of its own book.
        other = ("b", (("b", row(text("("), again(B), CLOSE)),))
        paper = (((A,), (B,)), ((again(A),), (again(B),)), ((CLOSE,), (CLOSE,)))
        self.yes(shows_alike, BRACKETS, other, paper)
        self.no(shows_alike, BRACKETS, other, paper + (((A,), (A,)),))
        self.no(shows_alike, BRACKETS, other, paper + (((B,), (B,)),))
        self.no(shows_alike, BRACKETS, other, paper + (((B,), (A,)),))

    def test_again_and_again_of_nothing(self):
        for form in (EMPTY, MAYBE, again(COMMA), ("spelt", AB), skip(MAYBE), row(EMPTY, MAYBE), either(AB, EMPTY)):
            for item in (again(form), again(form, COMMA), row(again(form)), skip(again(form)), ("due", 1, ":", again(form)),
                         again(row(COMMA, again(form))), either(COMMA, again(form)), counted(":", again(form))):
                self.no(shows_alike, BRACKETS, BRACKETS, ITEMS + (((item,), (item,)),))
        fine = again(row(COMMA, MAYBE))
        paper = (((fine,), (fine,)), ((MAYBE,), (MAYBE,)))
        self.no(shows_alike, BRACKETS, BRACKETS, ITEMS + paper[:1])
        self.yes(shows_alike, BRACKETS, BRACKETS, ITEMS + paper)

    def test_deep_items(self):
        item = COMMA
        for _ in range(38):
            item = row(item)
        self.yes(shows_alike, BRACKETS, BRACKETS, ITEMS + (((item,), (COMMA,)),))
        for _ in range(76):
            item = skip(item)
        self.yes(shows_alike, BRACKETS, BRACKETS, ITEMS + (((item,), (COMMA,)),))


class Told(Asking):
    def test_of_all_books(self):
        for asked in LET_BOOKS:
            self.paper(asked, asked)

    def test_of_others(self):
        others = (
            (VALUES, SUMS), (SUMS, COUNTS), (BRACKETS, book(a=row(row(text("(")), again(B), CLOSE), b=row(A))),
            (COUNTS, ("box", COUNTS[1] + (("last", NUMBER),))),
        )
        for one, other in others:
            self.paper(one, other)
            self.paper(other, one)

    def paper(self, one, other):
        answer = held(one, other, 2000)
        if answer[0] == "alike":
            paper = answer[1]
            self.yes(shows_alike, one, other, paper)
            self.yes(shows_alike, one, other, paper[::-1])
            self.yes(shows_alike, other, one, tuple((yours, mine) for mine, yours in paper))
            for at in range(0, len(paper), 1 + len(paper) // 4):
                fewer = paper[:at] + paper[at + 1:]
                self.assertIs(shows_alike(one, other, fewer), is_paper(one, other, fewer))
                changed = fewer + ((paper[at][0] + (COMMA,), paper[at][1]),)
                self.assertIs(shows_alike(one, other, changed), is_paper(one, other, changed))

    def test_very_large_ones(self):
        many = tuple(("k" + chr(97 + at), row(text(SIGNS[at + 1]), counted(":" + SIGNS[at + 1], AB))) for at in range(20))
        asked = book(a=("either", many))
        answer = held(asked, asked, 2000)
        self.assertEqual(answer[0], "alike")
        self.assertGreater(len(answer[1]), 200)
        self.yes(shows_alike, asked, asked, answer[1])
        # The pairs of whole rests that come of like beginnings are a paper, too, however long the rests.
        texts = tuple("".join((SIGNS[1 + at // 40], SIGNS[50 + at % 40], "x" * (at % 9), "~")) for at in range(100))
        asked = book(a=row(("pick", tuple((told, at) for at, told in enumerate(texts))), counted(":", COMMA), text("!")))
        paper = self.whole(asked)
        self.assertGreater(len(paper), 200)
        self.yes(shows_alike, asked, asked, paper)
        self.no(shows_alike, asked, asked, paper[:-1])

    def whole(self, asked):
        table = dict(asked[1])
        found = {((("named", "a"),)): True}
        todo = list(found)
        while todo:
            rest = todo.pop()
            for sign in sorted(all_begin(table, rest)):
                coming = rest_behind(table, rest, sign)
                if coming and coming not in found:
                    found[coming] = True
                    todo.append(coming)
        return tuple((rest, rest) for rest in found)


if __name__ == "__main__":
    unittest.main()
