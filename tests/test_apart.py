"""Ways that go apart [10]."""

import unittest

from readtell.apart import shows_apart
from readtell.books import is_book
from readtell.walking import walked
from tests.asking import OTHER_KINDS, Asking, nested
from tests.brute import go_apart, walks_of
from tests.test_books import A, book
from tests.test_forms import NUMBER
from tests.test_looking import AB, CLASHES, COMMA, EMPTY, LET, again, counted, either, row, text

# A book and two of its texts with ways that go apart.
APART = (
    (either(COMMA, COMMA), (",", ((0, 0),)), (",", ((0, 1),))),
    (either(EMPTY, again(COMMA)), ("", ((0, 0),)), ("", ((0, 1), (0, 0)))),
    (either(row(COMMA, AB), row(COMMA, NUMBER)), (",b", ((0, 0),)), (",12", ((0, 1), (2, 1), (3, 0)))),
    (again(NUMBER), ("10", ((0, 1), (1, 0), (1, 1), (2, 0))), ("10", ((0, 1), (1, 1), (2, 0), (2, 0)))),
    (again(NUMBER), ("10", ((0, 1), (1, 0), (1, 1), (2, 0))), ("100", ((0, 1), (1, 1), (2, 1), (3, 0), (3, 0)))),
    (row(("word", "ab"), text("b")), ("ab", ((1, 0),)), ("abb", ((1, 1), (2, 0)))),
    (again(EMPTY), ("", ((0, 0),)), ("", ((0, 1), (0, 0)))),
    (again(EMPTY), ("", ((0, 1), (0, 0))), ("", ((0, 1), (0, 1), (0, 1), (0, 0)))),
    (counted("1", AB), ("11a", ((1, 0),)), ("111" + "b" * 11, ((1, 1),))),
    (row(again(AB, COMMA), COMMA), ("a,", ((0, 1), (1, 0))), ("a,b,", ((0, 1), (1, 1), (3, 0)))),
)

# A book and two of its texts with ways that don't go apart.
BESIDE = (
    # The ways are the same.
    (AB, ("a", ()), ("a", ())), (AB, ("a", ()), ("b", ())), (either(AB, COMMA), ("a", ((0, 0),)), ("b", ((0, 0),))),
    (either(COMMA, COMMA), (",", ((0, 0),)), (",", ((0, 0),))),
    # They differ first in a place.
    (row(("pick", (("a", 1), ("bb", 2))), either(COMMA, AB)), ("aa", ((1, 1),)), ("bb,", ((2, 0),))),
    (row(("pick", (("a", 1), ("bb", 2))), either(COMMA, COMMA)), ("a,", ((1, 0),)), ("bb,", ((2, 1),))),
    (row(again(("pick", (("a", 1), ("bb", 2)))), COMMA),
     ("aa,", ((0, 1), (1, 1), (2, 0))), ("bba,", ((0, 1), (2, 1), (3, 0)))),
    # The texts are unlike ahead of the decision.
    (row(AB, either(COMMA, COMMA)), ("a,", ((1, 0),)), ("b,", ((1, 1),))),
    (row(AB, AB, again(EMPTY)), ("aa", ((2, 0),)), ("ba", ((2, 1), (2, 0)))),
    # Unlike signs there.
    (either(AB, COMMA), ("a", ((0, 0),)), (",", ((0, 1),))), (either(AB, AB), ("a", ((0, 0),)), ("b", ((0, 1),))),
    (row(COMMA, again(AB, COMMA), COMMA), (",,", ((1, 0),)), (",a,", ((1, 1), (2, 0)))),
    # One ends there, the other one doesn't.
    (again(NUMBER), ("0", ((0, 1), (1, 0))), ("00", ((0, 1), (1, 1), (2, 0)))),
    (again(AB), ("", ((0, 0),)), ("a", ((0, 1), (1, 0)))), (NUMBER, ("1", ((1, 0),)), ("12", ((1, 1), (2, 0)))),
    (either(EMPTY, COMMA), ("", ((0, 0),)), (",", ((0, 1),))),
    (("word", "ab"), ("ab", ((1, 1), (2, 0))), ("a", ((1, 0),))),
)


class ShowsApart(Asking):
    def test_ways_that_go_apart(self):
        for form, one, other in APART:
            self.check(book(a=form), one, other, True)
            self.check(book(a=("named", "b"), b=("skip", form)), one, other, True)

    def test_ways_that_do_not(self):
        for form, one, other in BESIDE:
            self.check(book(a=form), one, other, False)

    def check(self, asked, one, other, wanted):
        self.assertTrue(is_book(asked))
        for told, way in (one, other):
            self.assertIsNot(walked(asked, told, way), None, (asked, told, way))
        self.assertIs(go_apart(one, other), wanted)
        self.assertIs(self.told(shows_apart, asked, (one, other)), wanted, (asked, one, other))
        self.assertIs(self.told(shows_apart, asked, (other, one)), wanted, (asked, one, other))
        self.no(shows_apart, asked, (one, one))
        self.no(shows_apart, asked, (other, other))

    def test_what_is_no_way_of_its_text(self):
        for form, one, other in APART:
            asked = book(a=form)
            for told, way in (one, other):
                for bad in ((told + "a", way), (told + ",", way), (told, way + ((len(told), 0),)), (told, way[:-1]),
                            (told, ()), (told, way[1:]), (told, ((1, 5),) + way[1:]), (told, ((-1, 0),)),
                            ("", ((5, 5),)), (told, None)):
                    if walked(asked, bad[0], bad[1]) is None:
                        self.no(shows_apart, asked, (one, bad))
                        self.no(shows_apart, asked, (bad, other))
                        self.no(shows_apart, asked, (bad, one))

    def test_ways_of_another_form(self):
        for form, one, other in APART:
            for another in (EMPTY, AB, A, NUMBER, row(form, text(";"))):
                self.no(shows_apart, book(a=another), (one, other))

    def test_other_kinds(self):
        for form, one, other in APART:
            asked = book(a=form)
            things = (one, (one,), (), (one, other, one), (one, other, ()), [one, other], (list(one), other),
                      (one, list(other)), (one[0], one[1]), (one[::-1], other), (one, other[::-1]),
                      (one + (0,), other), (one[:1], other), ((one[0].encode(), one[1]), other),
                      ((one[0], list(one[1])), other), (one, (other[0], list(other[1]))),
                      ((one[0], tuple(list(step) for step in one[1])), other), {one: other}, "ab", ("ab", "ab"),
                      ((one, other),), nested((one, other), 3), (one, None), (None, other), ((None, one[1]), other),
                      (("", ()), other), (one, ("", ())), ((0, one[1]), other), ((list(one[0]), one[1]), other),
                      ((one[0], tuple((float(place), choice) for place, choice in one[1])), other))
            for x in things + OTHER_KINDS:
                self.no(shows_apart, asked, x)
            for x in OTHER_KINDS + (0, "a", ()):
                self.no(shows_apart, asked, (one, x))
                self.no(shows_apart, asked, (x, other))
                self.no(shows_apart, asked, ((one[0], x), other))
                self.no(shows_apart, asked, (one, (x, other[1])))

    def test_truths_for_numbers(self):
        asked = book(a=either(COMMA, COMMA))
        self.yes(shows_apart, asked, ((",", ((0, 0),)), (",", ((0, 1),))))
        self.no(shows_apart, asked, ((",", ((0, False),)), (",", ((0, 1),))))
        self.no(shows_apart, asked, ((",", ((0, 0),)), (",", ((0, True),))))
        self.no(shows_apart, asked, ((",", ((False, 0),)), (",", ((0, 1),))))

    def test_all_pairs_of_small_texts(self):
        for form in CLASHES[::3] + LET[::4]:
            asked = book(a=form)
            told = [(told, way) for told, way, _ in walks_of(asked, 3, 4)][:40]
            for one in told:
                for other in told:
                    self.assertIs(shows_apart(asked, (one, other)), go_apart(one, other), (asked, one, other))


if __name__ == "__main__":
    unittest.main()
