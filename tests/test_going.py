"""How texts go on, and how they are mended [14]."""

import unittest

from readtell.errors import Fails
from readtell.going import goes_on, mends
from readtell.looking import verdict
from readtell.reading import read, way_of
from readtell.walking import shows_read
from tests.asking import Asking
from tests.brute import walks_of
from tests.samples import (
    AB, B, BRACKETS, COMMA, COUNTS, EMPTY, LET_BOOKS, MAYBE, NUMBER, SPELT, SPELT_PICK, SUMS, TOLD, VALUES,
    WALKS, WORD, again, book, counted, either, row, skip, text,
)
from tests.test_forms import SIGNS

FIGURES = "0123456789"


def least_first(texts):
    return tuple(sorted(set(texts), key=lambda told: (len(told), told)))


class GoesOn(Asking):
    def test_each_word(self):
        pick = ("pick", (("abcd", 1), ("abd", 2), ("b", "x"), ("abaaa", "y"), ("abe", 0)))
        for form, told, more in (
                (text("abc"), "", "abc"), (text("abc"), "a", "bc"), (text("abc"), "abc", ""), (text("abc"), "b", None),
                (text("abc"), "abca", None), (("sign", "ba"[::-1]), "", "a"), (AB, "b", ""), (AB, "c", None),
                (AB, "ab", None), (WORD, "", "a"), (WORD, "ab", ""), (WORD, "abc", None), (NUMBER, "", "0"),
                (NUMBER, "0", ""), (NUMBER, "00", None), (NUMBER, "1", ""), (NUMBER, "x", None), (pick, "", "b"),
                (pick, "a", "bd"), (pick, "ab", "d"), (pick, "abc", "d"), (pick, "aba", "aa"), (pick, "abd", ""),
                (pick, "abf", None), (SPELT, "", ""), (SPELT, "aab", ""), (SPELT, "x", None), (SPELT_PICK, "a1b", "1"),
                (SPELT_PICK, "a1b2", None), (EMPTY, "", ""), (EMPTY, "a", None), (row(AB, COMMA, NUMBER), "", "a,0"),
                (row(AB, COMMA, NUMBER), "b", ",0"), (row(AB, COMMA, NUMBER), "b,", "0"),
                (row(AB, COMMA, NUMBER), "b,1", ""), (row(AB, COMMA, NUMBER), "b1", None),
                (again(text("ab")), "", ""), (again(text("ab")), "aba", "b"), (again(AB, COMMA), "a", ""),
                (again(AB, COMMA), "a,", "a"), (again(AB, COMMA), ",", None), (counted(":", AB), "", "0:"),
                (counted(":", AB), "3", ":aaa"), (counted(":", AB), "1", ":a"),
                (counted(":", AB), "12", ":" + "a" * 12),
                (counted(":", AB), "2:b", "a"), (counted(":", AB), "2:ba", ""), (counted(":", AB), "0:", ""),
                (counted("::", AB), "0:", ":"), (counted(":", AB), "01", None), (counted(":", AB), "123", None),
                (("turned", NUMBER, ((0, 12),)), "", "0"), (skip(row(COMMA, NUMBER)), ",", "0"),
                (row(skip(text("~")), AB), "", "~a"), (B, "", "a"), (row(B, COMMA), "bb", ","), (MAYBE, "", "")):
            asked = book(a=form, b=WORD)
            self.assertEqual(verdict(asked), ("let",))
            self.same(more, goes_on, asked, told)

    def test_the_shorter_one_ahead_of_the_lesser_one(self):
        self.same("z", goes_on, book(a=either(text("aa"), text("z"))), "")
        self.same("z", goes_on, book(a=row(COMMA, either(text("aa"), text("z")))), ",")
        self.same("b", goes_on, book(a=("pick", (("xaa", 1), ("xb", 2)))), "x")
        self.same("~", goes_on, book(a=either(row(COMMA, COMMA), text("~"), B), b=text("  ")), "")
        self.same("ac", goes_on, book(a=("pick", (("xad", 1), ("xac", 2), ("xb  ", 3)))), "x")

    def test_whole_books(self):
        for asked, told, more in (
                (VALUES, "", "0"), (VALUES, "[", "]"), (VALUES, "[1", "]"), (VALUES, "[1,", "0]"), (VALUES, "y", "es"),
                (VALUES, '{"', '":0}'), (VALUES, '{"x":{"', '":0}}'), (VALUES, "[[[{", "}]]]"), (VALUES, '"\\', '"'
                    + '"'), (VALUES, "1 ", ""), (VALUES, "[,", None), (VALUES, "01", None), (SUMS, "((", "0))"),
                (SUMS, "1*", "0"), (SUMS, "(x-", "0)"), (SUMS, "x)", None), (COUNTS, "2!", "0!0!"),
                (COUNTS, "2!1", "!0!0!"), (COUNTS, "1!<", ",>"), (COUNTS, "1!<,", ">"), (BRACKETS, "(" * 24, ")" * 24),
                (BRACKETS, "(()", ")"), (BRACKETS, "())", None)):
            self.same(more, goes_on, asked, told)

    def test_each_beginning(self):
        for asked, told, _ in TOLD + tuple((book(a=form), told, 0) for form, told, _, _ in WALKS):
            if verdict(asked) == ("let",):
                self.same("", goes_on, asked, told)
                for place in range(0, len(told), 1 + len(told) // 12):
                    more = goes_on(asked, told[:place])
                    self.assertLessEqual((len(more), more), (len(told) - place, told[place:]))
                    whole = told[:place] + more
                    self.assertTrue(shows_read(asked, whole, way_of(asked, whole), read(asked, whole)))

    def test_against_all_short_texts(self):
        for asked in LET_BOOKS[::3]:
            texts = [told for told, _, _ in walks_of(asked, 3, 7)]
            for begin in ["", *"ab01,:(", "a,", "0:", "1:", ",,", "ab", ",a", "a1"]:
                known = least_first([told for told in texts if told.startswith(begin)])
                more = goes_on(asked, begin)
                if known:
                    self.assertEqual(begin + more, known[0])
                elif more is not None:
                    self.assertGreater(len(begin + more), 3)
                    self.assertTrue(read(asked, begin + more) is not None)

    def test_two_books_by_turns(self):
        one, other = book(a=row(B, COMMA), b=NUMBER), book(a=row(B, COMMA), b=WORD)
        for _ in range(2):
            self.same("0,", goes_on, one, "")
            self.same("a,", goes_on, other, "")
            self.same(None, goes_on, one, "a")
            self.same(None, goes_on, other, "0")


class Mends(Asking):
    def mended(self, asked, told, *texts):
        self.assertEqual(list(texts), list(least_first(texts)), "the test's own order")
        self.refused(Fails, read, asked, told)
        self.same(texts, mends, asked, told)
        for one in texts:
            self.assertTrue(shows_read(asked, one, way_of(asked, one), read(asked, one)))

    def test_at_each_place(self):
        ends = book(a=text("abcd"))
        for told in ("bcd", "acd", "abd", "abc", "xabcd", "axbcd", "abxcd", "abcxd", "abcdx", "xbcd", "axcd", "abxd",
                     "abcx", "aabcd", "abbcd", "abccd", "abcdd"):
            self.mended(ends, told, "abcd")
        for told in ("", "cd", "ab", "abcdef", "xbcx", "bacd", "abdc", "ABCD", "abcdabcd", "dcba"):
            self.mended(ends, told)

    def test_at_the_failing_place_and_ahead_of_it(self):
        choice = book(a=row(either(text("a"), text("bx")), text("y")))
        self.mended(choice, "by", "ay", "bxy")
        self.mended(choice, "ax", "ay")
        self.mended(choice, "bxx", "bxy")
        brackets = book(a=row(either(row(text("("), NUMBER, text(")")), NUMBER), text(";")))
        self.mended(brackets, "12)", "12;")
        self.mended(brackets, "12);", "12;", "(2);", *[f"12{figure};" for figure in FIGURES], "(12);")
        dots = book(a=row(SPELT, text(".")))
        self.mended(dots, "aa", "a.", "aa.")
        self.mended(dots, "a", ".", "a.")
        self.mended(dots, "", ".")
        self.mended(dots, "a.b", "a.")
        self.mended(dots, "a..", "a.", "aa.", "ab.")
        self.mended(dots, "a.a.", "aa.", "aaa.", "aba.")

    def test_one_text_in_two_ways_is_told_once(self):
        self.mended(book(a=row(text("aa"), text("b"))), "aaab", "aab")
        self.mended(book(a=row(text("aaaa"), text("b"))), "aaab", "aaaab")
        self.mended(book(a=row(again(text("b")), text("c"))), "bbbd", "bbbc")
        self.mended(book(a=row(again(text("bb")), text("c"))), "bbbc", "bbc", "bbbbc")

    def test_the_empty_text(self):
        self.mended(book(a=AB), "", "a", "b")
        self.mended(book(a=NUMBER), "", *FIGURES)
        self.mended(book(a=("sign", SIGNS)), "", *SIGNS)
        self.mended(book(a=COMMA), "", ",")
        self.mended(book(a=row(COMMA, COMMA)), "")
        self.mended(book(a=again(COMMA)), "a", "", ",")
        self.mended(book(a=EMPTY), "\n", "")
        self.mended(book(a=EMPTY), "ab")

    def test_counts(self):
        self.mended(book(a=counted(":", AB)), "1:ab", "1:a", "1:b", "2:ab")
        self.mended(book(a=counted(":", AB)), "2:a", "1:a", "2:aa", "2:ab", "2:ba")
        self.mended(book(a=counted(":", AB)), "1" + ":" + "a" * 11, "11:" + "a" * 11)
        self.mended(book(a=counted(":", AB)), "0:a", "0:", "1:a")

    def test_with_letters_that_are_no_signs(self):
        self.mended(book(a=WORD), "a\tb", "ab", "aab", "abb")
        self.mended(book(a=WORD), chr(37), "a", "b")
        self.mended(book(a=WORD), "\xe4\xe4")

    def test_whole_books(self):
        self.mended(BRACKETS, "(()", "()", "(())")
        self.mended(BRACKETS, "())", "()", "(())")
        self.mended(BRACKETS, ")(")
        self.mended(SUMS, "(x", "x", "xx", "yx", "zx", "(x)")
        self.mended(COUNTS, "1!", "0!")

    def test_against_all_texts_with_one_sign_otherwise(self):
        for asked, told, _ in TOLD:
            if len(told) > 12 or asked == VALUES:
                continue
            for place in range(0, len(told) + 1, 2):
                for other in (told[:place] + told[place + 1:], told[:place] + "1)" + told[place + 1:]):
                    if not reads(asked, other):
                        self.assertEqual(mends(asked, other), tried(asked, other), (asked, other))

    def test_values(self):
        for told in ('[1 2]', '{""1}', 'ye'):
            self.assertEqual(self.told(mends, VALUES, told), tried(VALUES, told), told)

    def test_long_ones(self):
        numbers = book(a=again(NUMBER, COMMA))
        told = ",".join(["12"] * 20)
        self.assertEqual(len(told), 59)
        found = self.told(mends, numbers, told + ",")
        self.assertEqual(found, tried(numbers, told + ","))
        self.assertEqual(found[0], told)
        least = "(" * 29 + ")" * 29
        found = self.told(mends, BRACKETS, "(" + least)
        self.assertEqual(found[0], least)
        self.assertEqual(len(found), 30)

    def test_two_books_by_turns(self):
        one, other = book(a=B, b=text("ab")), book(a=B, b=text("ac"))
        for _ in range(2):
            self.same(("ab",), mends, one, "a")
            self.same(("ac",), mends, other, "a")
            self.same(("ab",), mends, one, "ac")
            self.same(("ac",), mends, other, "ab")


def reads(asked, told):
    try:
        read(asked, told)
    except Fails:
        return False
    return True


def tried(asked, told):
    """All texts that come of this one by one sign otherwise and read."""
    found = []
    for place in range(len(told) + 1):
        found.append(told[:place] + told[place + 1:])
        for sign in SIGNS:
            found.append(told[:place] + sign + told[place:])
            found.append(told[:place] + sign + told[place + 1:])
    return least_first([one for one in set(found) if reads(asked, one)])


if __name__ == "__main__":
    unittest.main()
