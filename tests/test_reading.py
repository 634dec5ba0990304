"""Reading [13, 3 (a), 3 (c)]."""

import unittest

from readtell.books import is_book
from readtell.errors import Fails
from readtell.going import goes_on
from readtell.looking import verdict
from readtell.reading import read, way_of
from readtell.walking import shows_read, walked
from tests.asking import Asking
from tests.brute import walks_of
from tests.samples import (
    AB, B, BRACKETS, COMMA, COUNTS, EMPTY, LET_BOOKS, MAYBE, NUMBER, SPELT, SPELT_PICK, SUMS, TOLD, VALUES,
    WALKS, WORD, again, book, counted, either, row, skip, text,
)
from tests.test_forms import SIGNS
from tests.test_walking import texts_beside

FIGURES = "0123456789"
PICK = ("pick", (("abc", 1), ("abd", 2), ("b", "x"), ("ca", "y")))

# Form, a text that it doesn't tell, the place, the signs that could stand there, whether it may end there.
FAILS = (
    (text("abc"), "", 0, "a", False), (text("abc"), "b", 0, "a", False), (text("abc"), "a", 1, "b", False),
    (text("abc"), "ac", 1, "b", False), (text("abc"), "ab", 2, "c", False), (text("abc"), "abd", 2, "c", False),
    (text("abc"), "abca", 3, "", True), (text("abc"), "abcabc", 3, "", True), (text("abc"), " abc", 0, "a", False),
    (AB, "", 0, "ab", False), (AB, "c", 0, "ab", False), (AB, "ab", 1, "", True), (AB, "A", 0, "ab", False),
    (("sign", SIGNS), "", 0, SIGNS, False), (("sign", SIGNS), "~~", 1, "", True),
    (("sign", SIGNS), "\t", 0, SIGNS, False), (("sign", SIGNS), chr(37), 0, SIGNS, False),
    (WORD, "", 0, "ab", False), (WORD, "abc", 2, "ab", True), (WORD, "cab", 0, "ab", False),
    (NUMBER, "", 0, FIGURES, False), (NUMBER, "00", 1, "", True), (NUMBER, "01", 1, "", True),
    (NUMBER, "1 ", 1, FIGURES, True), (NUMBER, "10a", 2, FIGURES, True), (NUMBER, "-1", 0, FIGURES, False),
    (NUMBER, "\u0661", 0, FIGURES, False),
    (PICK, "", 0, "abc", False), (PICK, "a", 1, "b", False), (PICK, "ab", 2, "cd", False),
    (PICK, "abb", 2, "cd", False), (PICK, "ac", 1, "b", False), (PICK, "bb", 1, "", True),
    (PICK, "cb", 1, "a", False), (PICK, "abca", 3, "", True),
    (SPELT, "c", 0, "ab", True), (SPELT, "abc", 2, "ab", True),
    (SPELT_PICK, "a", 1, "1", False), (SPELT_PICK, "a1b", 3, "1", False), (SPELT_PICK, "a11", 2, "ab", True),
    (SPELT_PICK, "x", 0, "ab", True),
    (EMPTY, "a", 0, "", True), (row(NUMBER, COMMA, AB), "10", 2, "," + FIGURES, False),
    (row(NUMBER, COMMA, AB), "0", 1, ",", False), (row(NUMBER, COMMA, AB), "0,", 2, "ab", False),
    (row(NUMBER, COMMA, AB), "0,ab", 3, "", True), (row(again(COMMA), SPELT, NUMBER), ",,ax", 3, FIGURES + "ab", False),
    (row(again(COMMA), SPELT, NUMBER), ",,x", 2, "," + FIGURES + "ab", False),
    (either(NUMBER, text("xy"), EMPTY), "y", 0, FIGURES + "x", True),
    (either(NUMBER, text("xy"), EMPTY), "x", 1, "y", False), (either(NUMBER, text("xy"), EMPTY), "xx", 1, "y", False),
    (either(NUMBER, text("xy"), EMPTY), "xy1", 2, "", True), (either(NUMBER, AB), "", 0, FIGURES + "ab", False),
    (row(MAYBE, AB), "", 0, ",ab", False), (row(MAYBE, AB), ",", 1, "ab", False),
    (row(MAYBE, AB), ",,", 1, "ab", False),
    (again(text("ab")), "aba", 3, "b", False), (again(text("ab")), "abb", 2, "a", True),
    (again(AB, COMMA), "a,", 2, "ab", False), (again(AB, COMMA), ",a", 0, "ab", True),
    (again(AB, COMMA), "ab", 1, ",", True), (again(AB, COMMA), "a,,b", 2, "ab", False),
    (again(AB, skip(again(COMMA))), "a,,", 3, ",ab", False), (again(AB, skip(again(COMMA))), "a;", 1, ",ab", True),
    (counted(":", AB), "", 0, FIGURES, False), (counted(":", AB), "0", 1, ":", False),
    (counted(":", AB), "00", 1, ":", False), (counted(":", AB), "0:a", 2, "", True),
    (counted(":", AB), "1", 1, FIGURES + ":", False), (counted(":", AB), "1:", 2, "ab", False),
    (counted(":", AB), "2:a", 3, "ab", False), (counted(":", AB), "2:aba", 4, "", True),
    (counted(":", AB), "12", 2, ":", False), (counted(":", AB), "123", 2, ":", False),
    (counted(":", AB), "10:" + "a" * 9, 12, "ab", False), (counted(":", AB), "99:" + "a" * 100, 102, "", True),
    (counted("-:", AB), "1-a", 2, ":", False), (counted(":", EMPTY), "3:a", 2, "", True),
    (("turned", NUMBER, ((0, 12),)), "1a", 1, FIGURES, True), (skip(row(AB, COMMA)), "aa", 1, ",", False),
    (row(skip(again(COMMA)), AB), ",,", 2, ",ab", False), (row(B, COMMA), "b1", 1, ",ab", False),
)


class Reading(Asking):
    def reads(self, asked, told, worth):
        """The text is read to this worth, in a way that a walk shows."""
        self.same(worth, read, asked, told)
        way = self.told(way_of, asked, told)
        self.yes(shows_read, asked, told, way, worth)
        self.same(worth, walked, asked, told, way)
        return way

    def both_fail(self, place, signs, end, asked, told):
        self.fails(place, signs, end, read, asked, told)
        self.fails(place, signs, end, way_of, asked, told)

    def test_each_word(self):
        for form, told, way, worth in WALKS:
            if verdict(book(a=form)) == ("let",):
                self.assertEqual(self.reads(book(a=form), told, worth), way)
                self.reads(book(a=("named", "c"), c=B, b=form), told, worth)

    def test_beside_others(self):
        for form, told, way, worth in WALKS:
            asked = book(a=either(COMMA, row(AB, text(";"), again(B, text("!")), text("!."))), b=form)
            if verdict(asked) != ("let",):
                asked = book(a=either(COMMA, row(AB, text(";"), counted(" ", row(B, text("~"))), text("!."))), b=form)
                if verdict(asked) != ("let",):
                    self.assertEqual(form, counted(":", NUMBER))
                    continue
                self.reads(asked, "a;2 " + (told + "~") * 2 + "!.", ("ab", ("a", ((worth,), (worth,)))))
                way = tuple((place + 4, choice) for place, choice in way)
                self.assertEqual(way_of(asked, "a;1 " + told + "~!."), ((0, 1), (3, 0)) + way)

    def test_whole_books(self):
        for asked, told, worth in TOLD:
            self.assertTrue(is_book(asked))
            self.reads(asked, told, worth)

    def test_the_way(self):
        self.same(((0, 0),), way_of, book(a=again(AB)), "")
        self.same(((0, 1), (1, 1), (2, 0)), way_of, book(a=again(AB)), "ab")
        self.same((), way_of, book(a=row(COMMA, NUMBER)), ",0")
        self.same(((0, 1), (1, 1), (3, 0), (5, 1), (6, 0)), way_of,
                book(a=row(again(AB, COMMA), text(";"), NUMBER)), "a,b;10")
        self.same(((0, 2), (0, 0)), way_of, book(a=either(COMMA, AB, either(EMPTY, NUMBER))), "")
        self.same(((1, 0), (2, 0), (3, 1)), way_of, book(a=counted(":", either(COMMA, AB))), "2:,b")
        self.same(((1, 1), (13, 0)), way_of, book(a=row(counted(":", COMMA), SPELT)), "10:" + "," * 10)

    def test_the_empty_text(self):
        for form, worth, way in ((EMPTY, (), ()), (SPELT, "", ((0, 0),)), (again(AB), (), ((0, 0),)),
                (again(NUMBER, COMMA), (), ((0, 0),)), (MAYBE, ("aa", ()), ((0, 0),)), (skip(EMPTY), (), ()),
                (row(EMPTY, again(AB), skip(EMPTY)), ((), ()), ((0, 0),)), (B, (), ())):
            self.assertEqual(self.reads(book(a=form, b=EMPTY), "", worth), way)
        for form in (COMMA, AB, WORD, NUMBER, PICK, row(EMPTY, COMMA), either(AB, COMMA), counted(":", EMPTY)):
            place, signs, end = self.refused_values(book(a=form), "")
            self.assertEqual((place, end), (0, False))
            self.assertNotEqual(signs, "")

    def refused_values(self, asked, told):
        values = []
        for function in (read, way_of):
            with self.assertRaises(Fails) as caught:
                function(asked, told)
            self.assertIs(type(caught.exception), Fails)
            values.append((caught.exception.place, caught.exception.wants, caught.exception.end))
        self.assertEqual(values[0], values[1])
        return values[0]

    def test_fails(self):
        for form, told, place, signs, end in FAILS:
            asked = book(a=form, b=WORD)
            self.assertEqual(verdict(asked), ("let",))
            self.both_fail(place, "".join(sorted(signs)), end, asked, told)
            asked = book(a=row(text("~"), ("named", "c"), text("~")), b=WORD, c=form)
            if verdict(asked) == ("let",) and "~" not in signs + told:
                signs = sorted(signs + "~" if end else signs)
                self.both_fail(place + 1, "".join(signs), False, asked, "~" + told)
                self.both_fail(0, "~", False, asked, told)

    def test_fails_of_whole_books(self):
        blank = "\n "
        for asked, told, place, signs, end in (
                (VALUES, "", 0, '"[ny{' + FIGURES, False), (VALUES, "1 1", 2, blank, True),
                (VALUES, "[1,]", 3, blank + '"[ny{' + FIGURES, False), (VALUES, "[1 2]", 3, blank + ",]", False),
                (VALUES, "{\"a\"1}", 4, blank + ":", False), (VALUES, "{a", 1, blank + '"}', False),
                (VALUES, "yet", 2, "s", False), (VALUES, '"\\a"', 2, '"\\n', False), (VALUES, "[[[", 3, blank
                    + '"[]ny{' + FIGURES, False), (VALUES, "[]]", 2, blank, True),
                (SUMS, "(1", 2, ")*+-" + FIGURES, False), (SUMS, "1+", 2, "(xyz" + FIGURES, False),
                (SUMS, "1)", 1, "*+-" + FIGURES, True), (SUMS, "0)", 1, "*+-", True),
                (COUNTS, "1!<a,>", 4, ">ab", False), (COUNTS, "2!0!", 4, "<" + FIGURES, False),
                (BRACKETS, "(()", 3, "()", False), (BRACKETS, "())", 2, "", True), (BRACKETS, "", 0, "(", False)):
            self.both_fail(place, "".join(sorted(signs)), end, asked, told)

    def test_signs_left_out_put_in_exchanged(self):
        for form, told, _, _ in WALKS:
            asked = book(a=form)
            if len(told) > 4 or verdict(asked) != ("let",):
                continue
            worths = {known: worth for known, _, worth in walks_of(asked, len(told) + 1, 8)}
            for other in texts_beside(told):
                if other in worths:
                    self.reads(asked, other, worths[other])
                else:
                    self.checked_fail(asked, other)

    def test_signs_otherwise_in_whole_books(self):
        for asked, told, _ in TOLD:
            for place in range(len(told) + 1):
                ahead, behind = told[:place], told[place + 1:]
                for other in ((ahead, ahead + behind), (ahead + ">" + told[place:], ahead + "0" + behind),
                              (ahead + chr(37) + behind, ahead + "\t" + told[place:]))[place % 3]:
                    try:
                        worth = read(asked, other)
                    except Fails:
                        self.checked_fail(asked, other)
                    else:
                        self.assertIs(shows_read(asked, other, way_of(asked, other), worth), True)

    def checked_fail(self, asked, told):
        """Refused at the place to which the text begins one of the book's, with what could stand there."""
        place, signs, end = self.refused_values(asked, told)
        self.assertIsNot(goes_on(asked, told[:place]), None)
        self.assertEqual(end, goes_on(asked, told[:place]) == "")
        self.assertTrue(place < len(told) or not end)
        if place < len(told):
            self.assertIs(goes_on(asked, told[:place + 1]), None)
        for sign in signs:
            more = told[:place] + sign + goes_on(asked, told[:place] + sign)
            self.assertIs(shows_read(asked, more, way_of(asked, more), read(asked, more)), True)
        for sign in "ab01x,:;.~\n":
            self.assertEqual(sign in signs, goes_on(asked, told[:place] + sign) is not None)

    def test_long_texts(self):
        many = ",".join("abb" * 250) + ";"
        self.assertEqual(len(many), 1500)
        asked = book(a=row(again(AB, COMMA), text(";")))
        self.reads(asked, many, (tuple(many[:-1:2]),))
        self.both_fail(1499, ",;", False, asked, many[:-1])
        self.both_fail(1500, "", True, asked, many + ";")
        self.both_fail(1498, "ab", False, asked, many[:-2] + ";")
        numbers = [str(10 ** 119 + 7), "9" * 120, "1" * 120, "0"]
        self.reads(book(a=again(NUMBER, COMMA)), ",".join(numbers * 3), tuple(int(told) for told in numbers * 3))
        self.both_fail(120, "," + FIGURES, True, book(a=again(NUMBER, COMMA)), numbers[0] + ":")
        self.reads(book(a=("word", SIGNS)), SIGNS * 15, SIGNS * 15)
        self.reads(book(a=counted(":", counted("/", AB))), "20:" + ("10/" + "ab" * 5) * 20, (tuple("ab" * 5),) * 20)

    def test_names_one_within_another(self):
        for many in (1, 2, 23, 24, 60):
            worth = ((),)
            for _ in range(many - 1):
                worth = ((worth,),)
            self.reads(BRACKETS, "(" * many + ")" * many, worth)
            self.both_fail(2 * many - 1, "()", False, BRACKETS, "(" * many + ")" * (many - 1))
            self.both_fail(2 * many, "", True, BRACKETS, "(" * many + ")" * many + "(")
        told = "[" * 20 + "]" * 20
        self.yes(shows_read, VALUES, told, way_of(VALUES, told), read(VALUES, told))
        names = "abcdefghijklmnop"
        rows = [(name, row(text(name), ("named", names[at + 1]), MAYBE)) for at, name in enumerate(names[:-1])]
        self.reads(("a", (*rows, ("p", NUMBER))), names[:-1] + "7", self.deep_worth(15))

    def deep_worth(self, many):
        worth = 7
        for _ in range(many):
            worth = (worth, ("aa", ()))
        return worth

    def test_each_text_has_one_way(self):
        for asked in LET_BOOKS[:40]:
            for told, way, worth in walks_of(asked, 2, 8)[:60]:
                self.same(worth, read, asked, told)
                self.same(way, way_of, asked, told)

    def test_two_books_by_turns(self):
        one, other = book(a=again(B, COMMA), b=NUMBER), book(a=again(B, COMMA), b=("turned", NUMBER, ((1, 2),)))
        for _ in range(2):
            self.same((1, 2, 3), read, one, "1,2,3")
            self.same((2, 1, 3), read, other, "1,2,3")
            self.fails(2, FIGURES, False, read, one, "1,")
            self.fails(2, "ab", False, read, book(a=again(B, COMMA), b=WORD), "a,")


if __name__ == "__main__":
    unittest.main()
