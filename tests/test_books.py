"""Books [5]."""

import unittest

from readtell.books import form_of, is_book, names_met
from tests.asking import OTHER_KINDS, Asking, nested
from tests.test_forms import FORMS, NO_FORMS, NUMBER, within

A = ("named", "a")
NOUGHT = ("text", "0")


def book(**forms):
    """A book that starts at a, of forms by their names."""
    return ("a", tuple(sorted(forms.items())))


def around(form):
    """Forms in which this form stands, but for a turned one, of which the things are worths of it."""
    return [outer for outer in within(form) if outer[0] != "turned"]


class Books(Asking):
    def test_books(self):
        self.yes(is_book, ("a", (("a", NUMBER),)))
        self.yes(is_book, ("b", (("a", NUMBER), ("b", A), ("c", NOUGHT))))
        self.yes(is_book, ("abcdefgh", (("a", NUMBER), ("ab", NUMBER), ("abcdefgh", A), ("b", NUMBER))))

    def test_a_form_of_each_word(self):
        for form in FORMS:
            if form[0] != "turned":
                rows = (("a", form),) if form != ("named", "abcdefgh") else (("a", form), ("abcdefgh", NUMBER))
                self.yes(is_book, ("a", rows))

    def test_rows_that_do_not_rise(self):
        self.yes(is_book, ("a", (("a", NUMBER), ("b", NUMBER), ("c", NUMBER))))
        for names in ("ba", "bac", "acb", "cba", "bca"):
            self.no(is_book, ("a", tuple((name, NUMBER) for name in names)))
        self.no(is_book, ("a", (("a", NUMBER), ("b", NUMBER), ("ab", NUMBER))))

    def test_a_name_twice(self):
        self.no(is_book, ("a", (("a", NUMBER), ("a", NUMBER))))
        self.no(is_book, ("a", (("a", NUMBER), ("a", NOUGHT))))
        self.no(is_book, ("a", (("a", NUMBER), ("b", NUMBER), ("b", NUMBER), ("c", NUMBER))))

    def test_a_start_that_is_not_there(self):
        for start in ("b", "aa", "", "A", None, 0, ("a",), ["a"], {}, True):
            self.no(is_book, (start, (("a", NUMBER),)))

    def test_names_that_are_not_there(self):
        for form in within(("named", "b")):
            self.no(is_book, book(a=form))
            self.no(is_book, book(a=NUMBER, c=form))
            self.yes(is_book, book(a=form, b=NUMBER))
            for deeper in around(form):
                self.no(is_book, book(a=A, c=deeper))
                self.no(is_book, book(a=deeper, c=NUMBER))
                self.yes(is_book, book(a=A, b=NUMBER, c=deeper))

    def test_no_rows_and_lists(self):
        for x in (("a", ()), ("a",), (("a", NUMBER),), ("a", (("a", NUMBER),), ()), ["a", (("a", NUMBER),)],
                  ("a", [("a", NUMBER)]), ("a", (["a", NUMBER],)), ("a", (("a", NUMBER, NUMBER),)), ("a", (("a",),)),
                  ("a", ("a", NUMBER)), ("a", {"a": NUMBER}), ("a", None), ("a", "a"), ("a", (None,)), {"a": NUMBER}):
            self.no(is_book, x)

    def test_rows_with_no_names_or_forms(self):
        for x in OTHER_KINDS + ("", "A", "a1", "abcdefghi", 0, ("a",)):
            self.no(is_book, ("a", ((x, NUMBER),)))
            self.no(is_book, ("a", (("a", NUMBER), (x, NUMBER))))
        for x in OTHER_KINDS + NO_FORMS:
            self.no(is_book, ("a", (("a", x),)))
            self.no(is_book, ("a", (("a", NUMBER), ("b", x))))

    def test_other_kinds(self):
        for x in OTHER_KINDS + FORMS + ("a", 0, (), nested("a", 80), (("a", "a"), "a")):
            self.no(is_book, x)

    def test_as_large_as_books_may_be(self):
        names = tuple("abcdefghijklmnopqrst")
        rows = tuple((name, ("row", (NUMBER,) * 20)) for name in names)
        self.yes(is_book, ("t", rows))
        self.no(is_book, ("u", rows))


class TurnedThings(Asking):
    """The things in a turned form are worths of its f."""

    def test_worths_of_each_word(self):
        good = (
            (NUMBER, ((0, 1), (10 ** 100, 3))), (("sign", "abc"), (("a", "c"),)), (("word", "ab"), (("a", "abba"),)),
            (("pick", (("x", 1), ("y", "2"))), ((1, "2"),)), (("spelt", ("sign", "ab")), (("", "ab"),)),
            (("row", (NUMBER, NOUGHT, NUMBER)), (((0, 1), (1, 0)),)), (("row", (NUMBER,)), (((0,), (1,)),)),
            (("either", (("a", NUMBER), ("b", NOUGHT))), ((("a", 0), ("b",)),)),
            (("again", NUMBER, None), (((), (1, 2)),)), (("counted", ":", NUMBER), (((), (1,)), ((2,), (2, 2)))),
            (("turned", NUMBER, ((0, 1),)), ((0, 2), (1, 5))),
        )
        for form, pairs in good:
            self.yes(is_book, book(a=("turned", form, pairs)))
            self.yes(is_book, book(a=("turned", ("named", "b"), pairs), b=form))
            self.yes(is_book, book(a=("turned", ("named", "b"), pairs), b=("named", "c"), c=form))

    def test_what_is_no_worth(self):
        bad = (
            (NUMBER, ((0, "1"),)), (NUMBER, ((0, 1), ((), 2))), (NUMBER, (("a", "b"),)),
            (("sign", "ab"), (("a", "c"),)),
            (("word", "ab"), (("", "a"),)), (("pick", (("x", 1), ("y", "2"))), (("1", "2"),)),
            (("spelt", ("sign", "ab")), (("a", "abc"),)), (("row", (NUMBER, NOUGHT)), ((0, (1,)),)),
            (("row", (NUMBER, NOUGHT)), (((0, 1), (1,)),)), (("row", ()), (((), 1),)),
            (("either", (("a", NUMBER), ("b", NOUGHT))), ((("a", 0), ("b", 0)),)),
            (("either", (("a", NUMBER), ("b", NOUGHT))), ((("b",), ("c",)),)),
            (("again", NUMBER, None), (((1,), ("1",)),)), (("text", "a"), (((), 1),)), (("skip", NUMBER), ((0, 1),)),
            (("turned", NUMBER, ((0, 1),)), ((0, "a"),)), (("turned", NUMBER, ((0, "a"),)), ((0, 1),)),
        )
        for form, pairs in bad:
            self.no(is_book, book(a=("turned", form, pairs)))
            self.no(is_book, book(a=("turned", ("named", "b"), pairs), b=form))
            self.no(is_book, book(a=NUMBER, b=("skip", ("turned", ("named", "c"), pairs)), c=form))
            for deep in around(("turned", form, pairs)):
                self.no(is_book, book(a=NUMBER, b=deep))

    def test_each_thing_counts(self):
        for at in range(6):
            things = [0, 1, 2, 3, 4, 5]
            self.yes(is_book, book(a=("turned", NUMBER, tuple(zip(things[::2], things[1::2])))))
            things[at] = "x"
            self.no(is_book, book(a=("turned", NUMBER, tuple(zip(things[::2], things[1::2])))))

    def test_a_ring_of_names_without_an_end(self):
        self.no(is_book, book(a=("turned", A, ((0, 1),))))
        self.no(is_book, book(a=("turned", ("named", "b"), ((0, 1),)), b=("named", "b")))
        self.no(is_book, book(a=("turned", ("named", "b"), ((0, 1),)), b=("named", "c"), c=("named", "b")))
        self.no(is_book, book(a=("turned", ("named", "b"), ((0, 1),)), b=A))
        self.no(is_book, book(a=("turned", ("row", (A,)), (((0,), (1,)),))))

    def test_a_ring_of_names_with_an_end(self):
        choice = ("either", (("x", NUMBER), ("y", ("row", (A,)))))
        self.yes(is_book, book(a=choice, b=("turned", A, ((("x", 1), ("y", (("x", 1),))),))))
        self.yes(is_book, book(a=choice, b=("turned", A, ((("x", 1), ("y", (("y", (("x", 1),)),))),))))
        self.no(is_book, book(a=choice, b=("turned", A, ((("x", 1), ("y", (("y", ()),))),))))

    def test_a_pair_whose_one_thing_is_in_the_other(self):
        # Whether y is a worth hangs on x within it, which stands for y: for ever.
        x = ("x", 1)
        y = ("y", (x,))
        turned = ("turned", A, ((x, y),))
        self.no(is_book, book(a=("either", (("x", NUMBER), ("y", ("row", (turned,)))))))
        self.yes(is_book, book(a=("either", (("x", NUMBER), ("y", ("row", (("turned", A, ((x, ("x", 2)),)),)))))))

    def test_turned_ones_within_one_another(self):
        levels = ("number",)
        for number in range(9):
            levels = ("turned", levels, ((number, number + 1), (100, 200)))
        self.yes(is_book, book(a=levels))
        self.no(is_book, book(a=("turned", levels, ((1, "1"),))))


class FormsOf(Asking):
    def test_the_form_by_its_name(self):
        rows = tuple((chr(97 + at), form) for at, form in enumerate(FORMS[:20]))
        for name, form in rows:
            self.same(form, form_of, ("a", rows), name)
            self.same(form, form_of, ("c", rows), name)

    def test_a_name_that_begins_another(self):
        self.same(NOUGHT, form_of, book(a=NOUGHT, aa=NUMBER), "a")
        self.same(NUMBER, form_of, book(a=NOUGHT, aa=NUMBER), "aa")


class NamesMet(Asking):
    def test_the_start_alone(self):
        self.same(("a",), names_met, book(a=NUMBER))
        self.same(("a",), names_met, book(a=A))
        self.same(("a",), names_met, book(a=NUMBER, b=A, c=("named", "b")))
        self.same(("b",), names_met, ("b", (("a", NUMBER), ("b", NUMBER), ("c", A))))

    def test_in_one_step_by_forms_of_every_word(self):
        for form in within(("named", "c")):
            self.met(("a", "c"), book(a=form, b=NUMBER, c=NUMBER))
            for deeper in around(form):
                self.met(("a", "c"), book(a=deeper, b=A, c=NUMBER))
                self.met(("a", "b", "c"), book(a=("row", (("named", "b"), deeper)), b=A, c=NUMBER))

    def met(self, names, asked):
        self.assertTrue(is_book(asked))
        self.same(names, names_met, asked)

    def test_in_many_steps(self):
        names = "abcdefghijklmnop"
        rows = tuple((name, ("skip", ("named", behind))) for name, behind in zip(names, names[1:])) + (("p", NUMBER),)
        self.same(tuple(names), names_met, ("a", rows))
        self.same(tuple("klmnop"), names_met, ("k", rows))
        self.same(("p",), names_met, ("p", rows))

    def test_against_the_order(self):
        rows = (("a", NUMBER), ("b", A), ("ba", ("named", "b")), ("c", ("named", "ba")), ("d", ("named", "c")))
        self.same(("a", "b", "ba", "c", "d"), names_met, ("d", rows))
        self.same(("a", "b", "ba"), names_met, ("ba", rows))

    def test_rings(self):
        rows = (("a", ("named", "c")), ("b", A), ("c", ("row", (("named", "b"), A))), ("d", ("named", "a")))
        for start in "abc":
            self.same(("a", "b", "c"), names_met, (start, rows))
        self.same(("a", "b", "c", "d"), names_met, ("d", rows))


if __name__ == "__main__":
    unittest.main()
