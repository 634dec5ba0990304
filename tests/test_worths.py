"""Worths [6]."""

import unittest

from readtell.books import is_book
from readtell.worths import is_worth
from tests.asking import OTHER_KINDS, Asking, nested
from tests.test_books import A, book
from tests.test_forms import NUMBER, SIGNS

TEXT = ("text", "x")
SKIP = ("skip", NUMBER)
B = ("named", "b")


class Worths(Asking):
    def worths(self, form, good, bad, **more):
        """These things are worths of the form and those aren't, also by names and within others."""
        for name, asked in (("a", book(a=form, **more)), ("z", book(a=form, z=A, **more)),
                            ("z", book(a=form, y=A, z=("named", "y"), **more))):
            self.assertTrue(is_book(asked))
            for thing in good:
                self.yes(is_worth, asked, name, thing)
            for thing in tuple(bad) + OTHER_KINDS + ("\t",):
                self.no(is_worth, asked, name, thing)
        row = book(a=form, z=("row", (NUMBER, ("again", ("either", (("p", A), ("q", NUMBER))), None))), **more)
        for thing in good:
            self.yes(is_worth, row, "z", (0, (("q", 1), ("p", thing))))
        for thing in tuple(bad) + OTHER_KINDS:
            self.no(is_worth, row, "z", (0, (("q", 1), ("p", thing))))
            self.no(is_worth, row, "z", (0, (("p", thing), ("q", 1))))

    def test_bare(self):
        for form in (TEXT, SKIP, ("skip", ("word", "a"))):
            self.worths(form, ((),), ("x", "", 0, ((),), ("x",)))

    def test_sign(self):
        self.worths(("sign", "ac"), ("a", "c"), ("b", "", "ac", "aa", 0, (), ("a",), "A"))
        for sign in SIGNS:
            self.yes(is_worth, book(a=("sign", SIGNS)), "a", sign)

    def test_word(self):
        good = ("a", "c", "ac", "aacca", "c" * 1500)
        self.worths(("word", "ac"), good, ("", "b", "ab", "ba", "aba", 0, (), ("a", "c"), "a" * 1500 + "b"))

    def test_number(self):
        self.worths(NUMBER, (0, 1, 10, 10 ** 119, 10 ** 1500), ("0", "", (), (0,), -1, True, False, None, 0.0))

    def test_pick(self):
        pick = ("pick", (("a", "one"), ("b", 1), ("c", ""), ("d", "0")))
        self.worths(pick, ("one", 1, "", "0"), ("a", "b", 0, "1", "on", "onee", (), (1,), True, 2))

    def test_spelt(self):
        self.worths(("spelt", ("sign", "ab")), ("", "a", "b", "abba", "a" * 1500), ("c", "abc", "cab", 0, (), ("a",)))
        pick = ("pick", (("aa", "x"), ("b", "y")))
        self.worths(("spelt", pick), ("", "x", "y", "xyyx"), ("a", "aa", "xa", "ax", "b", 0, (), ("x",)))

    def test_row(self):
        self.worths(("row", ()), ((),), (0, "", ((),), (0,)))
        self.worths(("row", (TEXT, SKIP)), ((),), (((),), ((), ()), "x", 0))
        self.worths(("row", (NUMBER, TEXT)), ((0,), (7,)), (0, (), (0, ()), ((), 0), ("0",), ((0,),)))
        row = ("row", (TEXT, NUMBER, SKIP, ("sign", "ab"), TEXT))
        bad = ((0,), ("a", 0), (0, "a", 0), (0, "c"), (0, 0), ("a", "a"), (), (0, "a", ()), ((), 0, "a"), ((0, "a"),))
        self.worths(row, ((0, "a"), (9, "b")), bad)
        self.worths(("row", (NUMBER, ("row", (TEXT,)))), ((0, ()),), ((0,), (0, (0,)), ((), 0)))

    def test_row_of_more_than_two(self):
        row = ("row", (NUMBER, ("sign", "a"), NUMBER, ("row", (NUMBER,))))
        self.worths(row, ((0, "a", 1, (2,)),),
                ((0, "a", 1, (2, 3)), (0, "a", (2,), 1), (0, "a", 1), (0, "b", 1, (2,))))

    def test_either(self):
        either = ("either", (("x", NUMBER), ("y", TEXT), ("z", SKIP), ("w", ("row", ()))))
        good = (("x", 0), ("x", 12), ("y",), ("z",), ("w", ()))
        bad = (("x",), ("x", "0"), ("y", ()), ("z", ()), ("y", 0), ("w",), ("w", (), ()), ("x", 0, 0), ("v",),
                ("v", 0),
               (), "x", "y", 0, (0,), (("x", 0),), ("", 0), ("x", ()), (0, "x"), (("x",),), ("x", ("x", 0)))
        self.worths(either, good, bad)

    def test_again(self):
        self.worths(("again", NUMBER, None), ((), (0,), (1, 2, 3), (0,) * 1500),
                (0, "", ("0",), (0, "0"), ((),), ((0,),)))
        self.worths(("again", NUMBER, TEXT), ((), (0,), (1, 2, 3)), ((0, (), 1), ((),), 0, (0, "0", 0)))
        self.worths(("again", TEXT, SKIP), ((), ((),), ((), (), ())), (0, (0,), ((), 0), (((),),)))

    def test_counted(self):
        good = ((), (0,), (1, 2, 3), tuple(range(98)), tuple(range(99)))
        self.worths(("counted", ":", NUMBER), good,
                (0, "", ("0",), ((),), (0,) * 100, (0,) * 1000, (0,) * 98 + ("0",)))
        self.worths(("counted", ":", TEXT), ((), ((),), ((),) * 99), (((),) * 100, (0,), ("x",)))

    def test_turned(self):
        turned = ("turned", ("row", (NUMBER,)), (((0,), (1,)), ((2,), (30,))))
        self.worths(turned, ((0,), (1,), (2,), (3,), (30,)), (0, 1, (), ("0",), (0, 0), ((0,),)))
        twice = ("turned", ("turned", NUMBER, ((0, 1),)), ((1, 2), (0, 5)))
        self.worths(twice, (0, 1, 2, 5, 9), ((), "0", (0,)))

    def test_named_of_a_bare_one_is_not_bare(self):
        self.worths(B, ((),), (0, "x", ((),)), b=TEXT)
        self.worths(("row", (B, TEXT, B)), (((), ()),), ((), ((),), ((), (), ())), b=TEXT)
        self.worths(("either", (("x", B), ("y", TEXT))), (("x", ()), ("y",)), (("x",), ("y", ())), b=SKIP)
        self.worths(("turned", B, ((0, 1),)), (0, 1, 2), ((), "0"), b=NUMBER)

    def test_turned_of_a_bare_one_by_a_name_is_not_bare(self):
        # A turned form of a bare one has no two unlike worths, so none is a book's.
        self.no(is_book, book(a=("turned", TEXT, (((), 0),))))


class Rings(Asking):
    def test_no_worth_where_it_hangs_on_itself(self):
        for asked in (book(a=A), book(a=B, b=A), book(a=B, b=("named", "c"), c=B)):
            for thing in ((), 0, "", "a", ((),), (0,), ("x",)):
                self.no(is_worth, asked, "a", thing)
                self.no(is_worth, asked, "b" if len(asked[1]) > 1 else "a", thing)

    def test_rows_of_themselves(self):
        for thing in ((), ((),), nested((), 80), 0, (0,), nested(0, 30)):
            self.no(is_worth, book(a=("row", (A,))), "a", thing)

    def test_deeper_and_deeper(self):
        again = book(a=("again", A, None))
        for deep in (0, 1, 2, 40, 79, 80):
            self.yes(is_worth, again, "a", nested((), deep))
            self.no(is_worth, again, "a", nested(0, deep))
            self.no(is_worth, again, "a", nested(((), "", ()), deep))
        self.yes(is_worth, again, "a", ((), ((), ()), (((),),)))
        self.no(is_worth, again, "a", ((), ((), ()), (((True,),),)))

    def test_the_same_thing_twice_is_no_ring(self):
        asked = book(a=("row", (B, B, ("again", B, None))), b=("named", "c"), c=NUMBER)
        self.yes(is_worth, asked, "a", (1, 1, (1, 1)))
        self.no(is_worth, asked, "a", (1, 1, (1, "1")))

    def test_rings_by_turns(self):
        choice = ("either", (("x", NUMBER), ("y", ("row", (B,)))))
        one = ("x", 1)
        far = ("y", (("y", (one,)),))
        asked = book(a=choice, b=("turned", A, ((one, far),)))
        self.assertFalse(is_book(asked))
        near = ("y", (("x", 2),))
        asked = book(a=choice, b=("turned", A, ((one, near),)))
        self.assertTrue(is_book(asked))
        for thing in (one, near, ("y", (one,)), ("y", (near,)), ("y", (("y", (near,)),)), ("x", 0)):
            self.yes(is_worth, asked, "a", thing)
            self.yes(is_worth, asked, "b", thing)
        for thing in (("y", (1,)), ("y", ()), ("y", (("z", 1),)), ("x", "1"), ("y", (("y", ("x", 1)),))):
            self.no(is_worth, asked, "a", thing)
            self.no(is_worth, asked, "b", thing)

    def test_a_thing_that_stands_for_what_hangs_on_it(self):
        one = ("x", 1)
        near = ("y", (("x", 2),))
        asked = book(a=("either", (("x", NUMBER), ("y", ("row", (B,))))), b=("turned", A, ((one, near),)))
        self.yes(is_worth, asked, "a", ("y", (near,)))
        self.yes(is_worth, asked, "b", ("y", (one,)))

    def test_truths_where_numbers_were_asked_before(self):
        asked = book(a=("row", (B, B)), b=NUMBER)
        self.yes(is_worth, asked, "a", (1, 1))
        self.no(is_worth, asked, "a", (1, True))
        self.no(is_worth, asked, "a", (False, 0))

    def test_names_not_met(self):
        asked = book(a=TEXT, b=NUMBER, c=("row", (B, ("named", "d"))), d=("again", ("named", "c"), None))
        self.yes(is_worth, asked, "c", (1, ((2, ()),)))
        self.no(is_worth, asked, "c", ((), 1))
        self.no(is_worth, asked, "a", 1)

    def test_other_kinds(self):
        again = book(a=("again", A, None))
        for x in OTHER_KINDS:
            for deep in (0, 1, 2, 50):
                self.no(is_worth, again, "a", nested(x, deep))


if __name__ == "__main__":
    unittest.main()
