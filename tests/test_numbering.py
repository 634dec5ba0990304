"""Numbers of texts [16, 3 (d)]."""

import unittest

from readtell.counting import how_many
from readtell.errors import NoText
from readtell.numbering import number_of, text_at
from readtell.reading import read
from tests.asking import Asking
from tests.brute import walks_of
from tests.samples import (
    AB, B, BRACKETS, COMMA, COUNTS, EMPTY, LET_BOOKS, MAYBE, NUMBER, SPELT, SPELT_PICK, SUMS, TOLD, VALUES, WORD,
    again, book, counted, either, row, skip, text,
)
from tests.test_forms import SIGNS

# Form, and the first of its texts in order.
FIRST = (
    (text("abc"), ("abc",)), (AB, ("a", "b")), (WORD, ("a", "b", "aa", "ab", "ba", "bb", "aaa")),
    (NUMBER, (*"0123456789", "10", "11")), (SPELT, ("", "a", "b", "aa", "ab")),
    (SPELT_PICK, ("", "a1", "b1", "a1a1", "a1b1")),
    (("pick", (("b", 1), ("aa", 2), ("ac", "x"), ("c", 0))), ("b", "c", "aa", "ac")), (EMPTY, ("",)),
    (either(text("aaa"), text("z"), EMPTY, text("by")), ("", "z", "by", "aaa")), (MAYBE, ("", ",")),
    (row(AB, COMMA, AB), ("a,a", "a,b", "b,a", "b,b")), (again(AB, COMMA),
    ("", "a", "b", "a,a", "a,b", "b,a", "b,b", "a,a,a")),
    (again(COMMA), ("", ",", ",,", ",,,")), (counted(":", AB),
    ("0:", "1:a", "1:b", "2:aa", "2:ab", "2:ba", "2:bb", "3:aaa")),
    (counted(":", EMPTY), ("0:", "1:", "2:", "3:", "4:", "5:", "6:", "7:", "8:", "9:", "10:", "11:")),
    (("turned", AB, (("a", "b"),)), ("a", "b")), (skip(WORD), ("a", "b", "aa")), (B, ("a", "b", "aa")),
    (row(again(COMMA), SPELT), ("", ",", "a", "b", ",,", ",a", ",b", "aa")),
)


class Numbers(Asking):
    def numbered(self, asked, k, told, most=24):
        self.same(told, text_at, asked, k, most)
        self.same(k, number_of, asked, told)
        read(asked, told)

    def test_each_word(self):
        for form, texts in FIRST:
            asked = book(a=form, b=WORD)
            for k, told in enumerate(texts):
                self.numbered(asked, k, told)
                self.same(told, text_at, asked, k, len(told))
                self.same(told, text_at, asked, k, 12)
                if told != "":
                    self.refused(NoText, text_at, asked, k, len(told) - 1)

    def test_in_order(self):
        for asked in (VALUES, SUMS, COUNTS, BRACKETS):
            ahead = (-1, "")
            for k in range(60):
                told = text_at(asked, k, 24)
                self.assertEqual(number_of(asked, told), k)
                self.assertGreater((len(told), told), ahead)
                read(asked, told)
                ahead = (len(told), told)

    def test_against_all_short_texts(self):
        for asked in LET_BOOKS[:-4:3]:
            texts = sorted([told for told, _, _ in walks_of(asked, 3, 7)], key=lambda told: (len(told), told))
            for k in range(0, len(texts), 1 + len(texts) // 40):
                self.assertEqual(text_at(asked, k, 3), texts[k])
                self.assertEqual(number_of(asked, texts[k]), k)
            self.refused(NoText, text_at, asked, len(texts), 3)

    def test_great_numbers(self):
        smaller = [book(a=form) for form in (again(("sign", SIGNS)), NUMBER, SPELT_PICK)]
        for asked in (VALUES, SUMS, COUNTS, BRACKETS, *smaller):
            all_told = sum(how_many(asked, "", 24))
            for k in (all_told - 1, all_told // 2, all_told // 3, all_told // 7 * 6, all_told // 100):
                told = text_at(asked, k, 24)
                self.assertLessEqual(len(told), 24)
                self.assertEqual(number_of(asked, told), k)
                read(asked, told)
            last = text_at(asked, all_told - 1, 24)
            self.assertGreater((24, "~" * 25), (len(last), last))
            for k in (all_told, all_told + 1, 2 * all_told, all_told ** 3 + 10 ** 60):
                self.refused(NoText, text_at, asked, k, 24)

    def test_the_greatest_of_the_most_signs(self):
        self.numbered(book(a=("word", SIGNS)), sum(95 ** length for length in range(1, 25)) - 1, "~" * 24)
        self.numbered(book(a=NUMBER), 10 ** 24 - 1, "9" * 24)
        self.numbered(book(a=NUMBER), 10 ** 23, "1" + "0" * 23)
        self.numbered(BRACKETS, sum(how_many(BRACKETS, "", 24)) - 1, "(" + "()" * 11 + ")")
        self.numbered(book(a=SPELT), 2 ** 25 - 2, "b" * 24)

    def test_no_text(self):
        for form, many in ((text("abc"), 1), (AB, 2), (EMPTY, 1), (MAYBE, 2), (("pick", (("a", 1), ("bb", 2))), 2),
                (row(AB, AB, COMMA), 4), (either(COMMA, EMPTY, row(AB, AB)), 6)):
            asked = book(a=form)
            read(asked, text_at(asked, many - 1, 24))
            for k in (many, many + 1, many + 5, 10 ** 40, -1, -10 ** 40):
                for most in (0, 1, 3, 24):
                    self.refused(NoText, text_at, asked, k, most)

    def test_more_signs_than_the_most(self):
        asked = book(a=row(text("ab"), NUMBER))
        for most in (0, 1, 2):
            for k in (0, 1, 100):
                self.refused(NoText, text_at, asked, k, most)
        for k in range(10):
            self.same(f"ab{k}", text_at, asked, k, 3)
        self.refused(NoText, text_at, asked, 10, 3)
        self.same("ab10", text_at, asked, 10, 4)

    def test_most_of_none(self):
        self.same("", text_at, book(a=SPELT), 0, 0)
        self.refused(NoText, text_at, book(a=SPELT), 1, 0)
        self.refused(NoText, text_at, book(a=AB), 0, 0)
        self.same("", text_at, book(a=EMPTY), 0, 0)

    def test_the_same_number_with_another_most(self):
        for asked in (VALUES, SUMS, COUNTS, book(a=again(AB, COMMA))):
            for k in (0, 1, 5, 13, 40):
                told = text_at(asked, k, 24)
                for most in range(25):
                    if most < len(told):
                        self.refused(NoText, text_at, asked, k, most)
                    else:
                        self.assertEqual(text_at(asked, k, most), told)

    def test_what_does_not_read_has_no_number(self):
        figures = "0123456789"
        for form, told, place, signs, end in (
                (text("abc"), "abd", 2, "c", False), (WORD, "abc", 2, "ab", True), (NUMBER, "", 0, figures, False),
                (NUMBER, "00", 1, "", True), (again(AB, COMMA), "a,", 2, "ab", False),
                (counted(":", AB), "2:a", 3, "ab", False),
                (either(NUMBER, EMPTY), "x", 0, figures, True), (row(B, COMMA), "ab", 2, ",ab", False)):
            self.fails(place, signs, end, number_of, book(a=form, b=WORD), told)
        self.fails(3, "()", False, number_of, BRACKETS, "(()")

    def test_numbers_of_whole_texts(self):
        for asked, told, _ in TOLD:
            if len(told) <= 24:
                k = number_of(asked, told)
                self.same(told, text_at, asked, k, 24)
                self.assertEqual(len(text_at(asked, k, len(told))), len(told))

    def test_two_books_by_turns(self):
        one, other = book(a=again(B), b=AB), book(a=again(B), b=("sign", "xy"))
        for _ in range(2):
            self.numbered(one, 4, "ab")
            self.numbered(other, 4, "xy")
            self.fails(0, "ab", True, number_of, one, "xy")
            self.fails(0, "xy", True, number_of, other, "ab")


if __name__ == "__main__":
    unittest.main()
