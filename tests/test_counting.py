"""How many texts there are [16, 3 (d)]."""

import unittest

from readtell.books import is_book
from readtell.counting import how_many
from readtell.looking import verdict
from readtell.rests import begun, behind, may_end, wants
from tests.asking import Asking
from tests.brute import walks_of
from tests.samples import (
    A, AB, B, BLANKS, BRACKETS, COMMA, COUNTS, EMPTY, LET_BOOKS, MAYBE, NUMBER, SPELT, SPELT_PICK, SUMS, TOLD,
    VALUES, WORD, again, book, counted, either, row, skip, text,
)
from tests.test_forms import SIGNS

PICK = ("pick", (("a", 1), ("bc", 2), ("bd", ""), ("bef", "x")))
TENS = tuple(9 * 10 ** length for length in range(24))

# Form, and how many texts it has of no sign, of one, and so on.
MANY = (
    (text("a"), (0, 1, 0, 0)), (text("abc"), (0, 0, 0, 1, 0)), (AB, (0, 2, 0)), (("sign", SIGNS), (0, 95, 0)),
    (WORD, (0, 2, 4, 8, 16)), (NUMBER, (0, 10) + TENS[1:]), (PICK, (0, 1, 2, 1, 0)), (SPELT, (1, 2, 4, 8, 16)),
    (SPELT_PICK, (1, 0, 2, 0, 4, 0, 8)), (EMPTY, (1, 0, 0)), (row(AB, NUMBER, COMMA), (0, 0, 0, 20, 180, 1800)),
    (either(AB, EMPTY, text("cc")), (1, 2, 1, 0)), (MAYBE, (1, 1, 0)), (again(AB), (1, 2, 4, 8)),
    (again(text("ab")), (1, 0, 1, 0, 1)), (again(AB, COMMA), (1, 2, 0, 4, 0, 8)),
    (again(NUMBER, COMMA), (1, 10, 90, 1000, 10800)), (again(AB, BLANKS), (1, 2, 4, 16, 64)),
    (counted(":", AB), (0, 0, 1, 2, 4, 8, 16, 32, 64, 128, 256, 512, 0, 1024, 2048, 4096)),
    (counted("::", COMMA), (0, 0, 0) + (1,) * 10 + (0, 1, 1)), (counted(":", EMPTY), (0, 0, 10, 90, 0)),
    (counted(":", either(AB, row(COMMA, AB))), (0, 0, 1, 2, 6, 16)),
    (("turned", NUMBER, ((0, 1),)), (0, 10, 90)), (skip(WORD), (0, 2, 4)), (B, (0, 2, 4, 8)),
    (row(again(COMMA), SPELT), (1, 3, 7, 15)), (row(B, COMMA, B), (0, 0, 0, 4, 16, 48)),
    (row(EMPTY, skip(EMPTY)), (1, 0)), (row(AB, again(row(COMMA, AB))), (0, 2, 0, 4, 0, 8)),
)


class HowMany(Asking):
    def test_each_word(self):
        for form, many in MANY:
            asked = book(a=form, b=WORD)
            self.assertTrue(is_book(asked))
            self.assertEqual(verdict(asked), ("let",))
            self.same(many, how_many, asked, "", len(many) - 1)
            self.same(many[:1], how_many, asked, "", 0)
            self.same(many[:2], how_many, asked, "", 1)
            shifted = (0, 0) + many
            wrapped = book(a=row(text("~"), ("named", "c"), text("~")), b=WORD, c=form)
            self.same(shifted, how_many, wrapped, "", len(shifted) - 1)

    def test_none_and_the_most(self):
        self.same((0,), how_many, book(a=AB), "", 0)
        self.same((1,), how_many, book(a=AB), "a", 0)
        self.same((1,), how_many, book(a=SPELT), "", 0)
        self.same(tuple(2 ** length for length in range(25)), how_many, book(a=SPELT), "", 24)
        self.same((0, 10) + tuple(9 * 10 ** (length - 1) for length in range(2, 25)), how_many, book(a=NUMBER), "", 24)
        self.same((1,) + (0,) * 24, how_many, book(a=EMPTY), "", 24)

    def test_behind_beginnings(self):
        for form, begin, many in (
                (text("abc"), "a", (0, 0, 1, 0)), (text("abc"), "abc", (1, 0, 0, 0)), (text("abc"), "b", (0, 0, 0)),
                (WORD, "a", (1, 2, 4)), (WORD, "abbab", (1, 2, 4)), (WORD, "c", (0, 0, 0)), (WORD, "ac", (0,)),
                (NUMBER, "0", (1, 0, 0)), (NUMBER, "1", (1, 10, 100)), (NUMBER, "01", (0, 0, 0)),
                (PICK, "b", (0, 2, 1)),
                (PICK, "be", (0, 1, 0)), (PICK, "a", (1, 0)), (SPELT_PICK, "a", (0, 1, 0, 2)),
                (again(AB, COMMA), "a,", (0, 2, 0, 4)), (again(AB, COMMA), "a", (1, 0, 2, 0)),
                (counted(":", AB), "2", (0, 0, 0, 4) + (0,) * 18 + (2 ** 20, 2 ** 21, 2 ** 22)),
                (counted(":", AB), "2:a", (0, 2, 0)),
                (counted(":", AB), "10", (0,) * 11 + (1024,)), (counted(":", AB), "0:", (1, 0, 0)),
                (counted(":", AB), "99:" + "b" * 90, (0,) * 9 + (512, 0)), (counted(":", AB), "00", (0, 0)),
                (row(MAYBE, AB), ",", (0, 2, 0)), (skip(row(AB, COMMA)), "b", (0, 1, 0)), (EMPTY, "a", (0,) * 25),
                (("turned", NUMBER, ((0, 1),)), "5", (1, 10))):
            self.same(many, how_many, book(a=form), begin, len(many) - 1)

    def test_of_whole_texts(self):
        for asked, told, _ in TOLD:
            self.assertEqual(self.told(how_many, asked, told, 2)[0], 1)
            self.same((0,) * 4, how_many, asked, told + "~~", 3)
            self.same((0,) * 25, how_many, asked, "~" + told, 24)

    def test_names_in_rings(self):
        balanced = (1, 1, 2, 5, 14, 42, 132, 429, 1430, 4862, 16796, 58786)
        wanted = [0] * 25
        for at, many in enumerate(balanced):
            wanted[2 * at + 2] = many
        wanted[24] = 58786
        self.same(tuple(wanted), how_many, BRACKETS, "", 24)
        self.same((0, 1, 0, 1, 0, 2, 0, 5), how_many, BRACKETS, "(", 7)
        self.same((0,) * 24 + (1,), how_many, BRACKETS, "(" * 24, 24)
        self.same((0,) * 24, how_many, BRACKETS, "(" * 24, 23)
        ring = book(a=either(row(text("x"), B), EMPTY), b=either(row(AB, A), NUMBER))
        self.same((1, 0, 12, 90, 924, 9180), how_many, ring, "", 5)
        # Brackets of two sorts: far more rests than can be gone through one by one.
        sorts = book(a=row(again(either(row(text("("), A, text(")")), row(text("["), A, text("]"))))))
        longest = (16796 * 2 ** 10, 0, 58786 * 2 ** 11, 0, 208012 * 2 ** 12)
        self.assertEqual(self.told(how_many, sorts, "", 24)[20:], longest)

    def test_far_more_than_can_be_gone_through(self):
        self.assertEqual(how_many(book(a=again(("sign", SIGNS))), "", 24), tuple(95 ** length for length in range(25)))
        many = how_many(VALUES, "", 24)
        self.assertEqual(many[:3], (0, 10, 114))
        self.assertGreater(many[24], 10 ** 40)
        inner = how_many(VALUES, "[", 24)
        self.assertEqual(inner[:2], (0, 1))
        self.assertEqual(sum(how_many(COUNTS, "", 24)[:4]), 1)
        self.assertGreater(how_many(SUMS, "(x+", 24)[24], 10 ** 20)

    def test_small_books_one_by_one(self):
        for asked in LET_BOOKS[:-4:2]:
            texts = [told for told, _, _ in walks_of(asked, 3, 7)]
            for begin in ["", *"ab01,:(", "a,", "0:", ",,", "a1"]:
                many = how_many(asked, begin, 3 - len(begin))
                for length in range(4 - len(begin)):
                    known = [told for told in texts if told.startswith(begin) and len(told) == len(begin) + length]
                    self.assertEqual(many[length], len(known), (asked, begin))

    def test_behind_each_sign(self):
        for asked, told, _ in TOLD:
            if asked == VALUES and len(told) > 8:
                continue
            rest = begun(asked)
            for place, sign in enumerate(told[:20]):
                counted_on = [1 if may_end(asked, rest) else 0, 0, 0, 0]
                for coming in wants(asked, rest):
                    for length, many in enumerate(how_many(asked, told[:place] + coming, 2)):
                        counted_on[length + 1] += many
                self.assertEqual(list(how_many(asked, told[:place], 3)), counted_on)
                rest = behind(asked, rest, sign)

    def test_two_books_by_turns(self):
        one, other = book(a=again(B), b=AB), book(a=again(B), b=COMMA)
        for _ in range(2):
            self.same((1, 2, 4), how_many, one, "", 2)
            self.same((1, 1, 1), how_many, other, "", 2)
            self.same((1, 2, 4), how_many, one, "a", 2)
            self.same((0, 0, 0), how_many, other, "a", 2)


if __name__ == "__main__":
    unittest.main()
