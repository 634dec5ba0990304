"""Telling [15, 3 (a), 3 (d)]."""

import unittest

from readtell.books import is_book
from readtell.errors import Fails, NoWorth
from readtell.looking import verdict
from readtell.reading import read
from readtell.telling import tell, told_book
from readtell.worths import is_worth
from tests.asking import OTHER_KINDS, Asking, nested, snapshot
from tests.brute import walks_of
from tests.samples import (
    AB, B, BLANKS, BRACKETS, COMMA, COUNTS, EMPTY, LET_BOOKS, NUMBER, SPELT, SPELT_PICK, TOLD, VALUES, WALKS,
    WORD, again, book, counted, either, row, skip, text,
)
from tests.test_walking import worths_beside

C = ("named", "c")
ZED_FIRST = skip(either(text("zz"), text("b"), text("aa"), text("c")))
LETTER = skip(WORD)
NO_SIGNS = skip(row())

# Form, a text, the least text that reads to the same worth; b is a word, c one skipped with commas behind.
SKIPPED = (
    (skip(NUMBER), "123", "0"), (skip(NUMBER), "0", "0"), (BLANKS, " \n ", ""), (BLANKS, "", ""),
    (ZED_FIRST, "aa", "b"), (ZED_FIRST, "zz", "b"), (skip(("pick", (("b~", 1), ("ab", 2), ("ca", 3)))), "ca", "ab"),
    (skip(counted(":", AB)), "2:ab", "0:"), (skip(SPELT_PICK), "a1b1", ""),
    (skip(row(NUMBER, COMMA, WORD)), "12,bb", "0,a"), (skip(again(AB, COMMA)), "a,b", ""),
    (skip(skip(WORD)), "bab", "a"),
    (skip(B), "bba", "a"), (B, "bba", "bba"), (C, "b,,", "a"), (skip(C), "b,,", "a"),
    (row(C, text("!"), C), "b!bb,", "a!a"),
    (row(BLANKS, AB, BLANKS), "  b\n", "b"), (row(COMMA, LETTER, NUMBER), ",bb7", ",a7"),
    (either(NUMBER, row(LETTER, COMMA)), "bb,", "a,"), (either(NUMBER, LETTER), "b", "a"),
    (again(row(LETTER, COMMA)), "b,aa,ab,", "a,a,a,"), (again(LETTER, COMMA), "b,ba,a", "a,a,a"),
    (again(NUMBER, LETTER), "1b2aaa3", "1a2a3"), (again(NUMBER, skip(row(COMMA, BLANKS))), "1,  2,\n3", "1,2,3"),
    (again(NUMBER, ZED_FIRST), "1zz2aa3", "1b2b3"), (counted(":", row(LETTER, text("."))), "2:b.bb.", "2:a.a."),
    (counted(":", ZED_FIRST), "2:aazz", "2:bb"), (("turned", row(NUMBER, LETTER), (((1,), (2,)),)), "1bb", "1a"),
    (again(row(C, text(";"))), "b,,;ab;", "a;a;"),
)

# For told texts a book tells just some of its own.
TOLD_FORMS = (
    (skip(NUMBER), text("0")), (BLANKS, NO_SIGNS), (ZED_FIRST, text("b")), (skip(skip(WORD)), text("a")),
    (skip(B), text("a")), (B, B), (skip(C), text("a")), (skip(row(EMPTY, again(AB))), NO_SIGNS),
    (row(BLANKS, AB, LETTER), row(NO_SIGNS, AB, text("a"))), (row(row(LETTER), NUMBER), row(row(text("a")), NUMBER)),
    (either(NUMBER, row(LETTER, COMMA), BLANKS), either(NUMBER, row(text("a"), COMMA), NO_SIGNS)),
    (again(row(LETTER, NUMBER), COMMA), again(row(text("a"), NUMBER), COMMA)),
    (again(NUMBER, ZED_FIRST), again(NUMBER, text("b"))), (again(AB, BLANKS), again(AB, NO_SIGNS)),
    (again(ZED_FIRST, ZED_FIRST), again(text("b"), text("b"))), (again(ZED_FIRST), again(text("b"))),
    (counted(":", row(BLANKS, ZED_FIRST)), counted(":", row(NO_SIGNS, text("b")))),
    (counted(":", ZED_FIRST), counted(":", text("b"))),
    (("turned", row(NUMBER, LETTER), (((1,), (2,)),)), ("turned", row(NUMBER, text("a")), (((1,), (2,)),))),
    (skip(row(COMMA, LETTER, skip(counted(":", AB)))), text(",a0:")),
)


def with_names(form):
    return book(a=form, b=WORD, c=skip(row(WORD, again(COMMA))))


class Tell(Asking):
    def tells(self, asked, told, worth):
        self.same(told, tell, asked, worth)
        self.assertEqual(snapshot(read(asked, told)), snapshot(worth))

    def no_worth(self, asked, thing):
        self.assertFalse(is_worth(asked, asked[0], thing))
        self.refused(NoWorth, tell, asked, thing)

    def test_each_word(self):
        for form, told, _, worth in WALKS:
            if verdict(book(a=form)) == ("let",) and "skip" not in str(form):
                self.tells(book(a=form), told, worth)
                self.tells(book(a=B, b=C, c=form), told, worth)
                self.tells(book(a=row(NUMBER, text("<"), C, text(">")), c=form), f"7<{told}>", (7, worth))

    def test_whole_books(self):
        for asked, told, worth in TOLD:
            if asked != VALUES:
                self.tells(asked, told, worth)
        for told, least in (
                ("7", "7"), ("0 \n", "0"), ('"a\\"\\\\\\n b" ', '"a\\"\\\\\\n b"'), ('[1, "",yes]', '[1,"",yes]'),
                ("[ ]", "[]"), ('{"x":[{}], "yy" :no}', '{"x":[{}],"yy":no}'),
                ('{"x": 10 ,\n  "y": [ 1,2 , 3 ]}', '{"x":10,"y":[1,2,3]}')):
            self.tells(VALUES, least, read(VALUES, told))

    def test_what_is_skipped(self):
        for form, told, least in SKIPPED:
            asked = with_names(form)
            self.assertTrue(is_book(asked))
            self.assertEqual(verdict(asked), ("let",), form)
            worth = read(asked, told)
            self.tells(asked, least, worth)
            self.assertLessEqual((len(least), least), (len(told), told))

    def test_counts(self):
        asked = book(a=counted(":", AB))
        for many in (0, 1, 9, 10, 11, 98, 99):
            self.tells(asked, f"{many}:" + "b" * many, ("b",) * many)
        self.tells(book(a=counted(" ", EMPTY)), "10 ", ((),) * 10)
        self.no_worth(asked, ("b",) * 100)
        self.no_worth(asked, ("b",) * 98 + ("c",))
        within = book(a=row(NUMBER, text("="), counted(":", counted("/", COMMA))))
        self.tells(within, "5=2:10/" + "," * 10 + "0/", (5, (((),) * 10, ())))
        self.no_worth(within, (5, (((),) * 100, ())))

    def test_numbers(self):
        for number in (0, 1, 9, 10, 19, 90, 100, 10 ** 119, 10 ** 120 - 1, 3 ** 200):
            self.tells(book(a=NUMBER), str(number), number)
        many = tell(book(a=NUMBER), 10 ** 5000 + 3)
        self.assertEqual((len(many), many[0], many[-1], many.count("0")), (5001, "1", "3", 4999))

    def test_turned_both_ways(self):
        asked = book(a=("turned", NUMBER, ((0, 12), (5, 7))))
        for number, told in ((0, "12"), (12, "0"), (5, "7"), (7, "5"), (1, "1"), (2, "2")):
            self.tells(asked, told, number)
        twice = book(a=("turned", ("turned", AB, (("a", "b"),)), (("a", "b"),)))
        self.tells(twice, "a", "a")
        deep = book(a=again(("turned", row(AB, NUMBER, LETTER), ((("a", 1), ("b", 0)), (("b", 1), ("b", 10)))), COMMA))
        self.tells(deep, "b0a,a1a,b10a,b1a,a0a", (("a", 1), ("b", 0), ("b", 1), ("b", 10), ("a", 0)))
        self.no_worth(deep, (("a", "1"),))

    def test_long_and_deep_worths(self):
        told = ",".join("abbaab" * 125)
        self.tells(book(a=again(AB, COMMA)), told[:-2] + ",a", tuple("abbaab" * 124 + "abbaa") + ("a",))
        for many in (1, 24, 60):
            told = "(" * many + ")" * many
            self.same(told, tell, BRACKETS, read(BRACKETS, told))
        self.no_worth(BRACKETS, nested((), 80))
        self.no_worth(BRACKETS, nested((), 78))
        self.tells(BRACKETS, "(" * 40 + ")" * 40, nested((), 79))
        numbers = tuple([10 ** 119 + at for at in range(12)])
        self.tells(book(a=again(NUMBER, COMMA)), ",".join(str(number) for number in numbers), numbers)

    def test_what_is_no_worth(self):
        for form, _, _, worth in WALKS:
            asked = book(a=form)
            if verdict(asked) != ("let",):
                continue
            for thing in worths_beside(worth):
                if not is_worth(asked, "a", thing):
                    self.no_worth(asked, thing)
            for thing in OTHER_KINDS + ({worth: 1}, [worth], (worth, worth, None), nested(worth, 60)):
                self.no_worth(asked, thing)
        for asked, _, worth in TOLD:
            for thing in worths_beside(worth)[:60]:
                if not is_worth(asked, asked[0], thing):
                    self.refused(NoWorth, tell, asked, thing)

    def test_wrong_kinds_at_any_depth(self):
        asked = book(a=row(NUMBER, text(";"),
        again(either(AB, counted(":", row(text("#"), NUMBER, C)), skip(text("~"))),
                                                    COMMA)), c=SPELT)
        self.tells(asked, "3;b,2:#0ab#1,~", (3, (("aa", "b"), ("ab", ((0, "ab"), (1, ""))), ("ac",))))
        for thing in (True, None, -1, "0", 1.0, [0], {}, (), b"", "c"):
            self.no_worth(asked, (thing, ()))
            self.no_worth(asked, (3, (("aa", thing),)))
            self.no_worth(asked, (3, (("ab", ((thing, ""),)),)))
            self.no_worth(asked, (3, (("aa", "b"), ("ab", ((0, "ab"), (1, thing if thing != "" else 0))))))
            self.no_worth(asked, (3, (("ac", thing),)))
            self.no_worth(asked, (3, (thing,)))
        self.no_worth(asked, (3, [("aa", "b")]))
        self.no_worth(asked, (3, (("aa", "b"), ("aa",))))
        self.no_worth(asked, (3, (), ()))
        self.no_worth(asked, (3,))

    def test_least_of_all_that_read_to_it(self):
        skipping = [with_names(form) for form, _, _ in SKIPPED]
        for asked in skipping + list(LET_BOOKS[::4]):
            least = {}
            for told, _, worth in walks_of(asked, 3, 7):
                known = least.setdefault(repr(worth), (len(told), told, worth))
                if (len(told), told) < known[:2]:
                    least[repr(worth)] = (len(told), told, worth)
            for _, told, worth in list(least.values())[:40]:
                self.same(told, tell, asked, worth)

    def test_two_books_by_turns(self):
        one, other = book(a=again(B, COMMA), b=NUMBER), book(a=again(B, skip(COMMA)), b=("turned", NUMBER, ((1, 2),)))
        for _ in range(2):
            self.same("1,2,3", tell, one, (1, 2, 3))
            self.same("2,1,3", tell, other, (1, 2, 3))
            self.refused(NoWorth, tell, one, ("a",))
            self.same("a,b", tell, book(a=again(B, COMMA), b=AB), ("a", "b"))


class ToldBook(Asking):
    def test_skips_at_any_depth(self):
        for form, wanted in TOLD_FORMS:
            asked = with_names(form)
            self.assertEqual(verdict(asked), ("let",), form)
            told = book(a=wanted, b=WORD, c=text("a"))
            self.same(told, told_book, asked)
            self.assertEqual(verdict(told), ("let",))
            self.same(told, told_book, told)

    def test_names_that_are_not_met(self):
        asked = book(a=LETTER, b=skip(row(COMMA, B)), c=row(skip(B), skip(NUMBER)), d=skip(BLANKS))
        self.same(book(a=text("a"), b=skip(row(COMMA, B)), c=row(skip(B), text("0")), d=NO_SIGNS), told_book, asked)

    def test_without_skips(self):
        for asked in LET_BOOKS:
            if "skip" not in str(asked):
                self.same(asked, told_book, asked)

    def test_long_least_texts(self):
        asked = ("a", (("a", row(AB, skip(B))), ("b", row(*[text("abcdefghijkl")] * 40))))
        self.same(("a", (("a", row(AB, text("abcdefghijkl" * 40))), asked[1][1])), told_book, asked)
        self.assertTrue(is_book(told_book(asked)))
        self.assertEqual(read(told_book(asked), "b" + "abcdefghijkl" * 40), ("b",))

    def test_just_the_texts_that_tell_tells(self):
        skipping = [with_names(form) for form, _, _ in SKIPPED] + [with_names(form) for form, _ in TOLD_FORMS]
        for asked in skipping + list(LET_BOOKS[::4]):
            told = told_book(asked)
            self.assertTrue(is_book(told))
            self.assertEqual(verdict(told), ("let",))
            for one, _, worth in walks_of(asked, 3, 7)[:50]:
                least = tell(asked, worth)
                self.assertEqual(read(told, least), worth)
                self.assertEqual(tell(told, worth), least)
                if one != least:
                    self.refused(Fails, read, told, one)
            for one, _, worth in walks_of(told, 3, 7)[:50]:
                self.assertEqual(tell(asked, worth), one)

    def test_whole_books(self):
        for asked, told, worth in TOLD:
            least = told_book(asked)
            self.assertEqual(verdict(least), ("let",))
            self.assertEqual(read(least, tell(asked, worth)), worth)
            self.assertEqual(tell(least, worth), tell(asked, worth))
            if told != tell(asked, worth):
                self.refused(Fails, read, least, told)
        self.same(COUNTS, told_book, COUNTS)


if __name__ == "__main__":
    unittest.main()
