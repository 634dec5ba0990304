"""Spans [17]."""

import unittest

from readtell.looking import verdict
from readtell.reading import read
from readtell.spans import spans
from tests import descent
from tests.asking import Asking, snapshot
from tests.brute import walks_of
from tests.samples import (
    AB, B, BLANKS, BRACKETS, COMMA, EMPTY, LET_BOOKS, MAYBE, NUMBER, SPELT, SPELT_PICK, TOLD,
    VALUES, WALKS, WORD, again, book, counted, either, row, skip, text,
)

C = ("named", "c")
PICK = ("pick", (("ab", 1), ("c", "x")))

# Form, text, and what of the text tells each part, by the paths. B names a word, c a bare form.
TOLD_BY = (
    (text("ab"), "ab", {(): "ab"}), (skip(WORD), "ab", {(): "ab"}), (AB, "a", {(): "a"}), (WORD, "ab", {(): "ab"}),
    (NUMBER, "10", {(): "10"}), (PICK, "ab", {(): "ab"}), (SPELT, "aab", {(): "aab"}),
    (SPELT_PICK, "a1b1", {(): "a1b1"}),
    (EMPTY, "", {(): ""}), (row(AB), "a", {(): "a", (0,): "a"}), (row(COMMA, skip(WORD)), ",ab", {(): ",ab"}),
    (row(COMMA, NUMBER, skip(WORD), COMMA, WORD), ",10ba,b", {(): ",10ba,b", (0,): "10", (1,): "b"}),
    (row(row(AB, COMMA), row(), row(row(NUMBER))), "a,7", {
        (): "a,7", (0,): "a,", (0, 0): "a", (1,): "", (2,): "7", (2, 0): "7", (2, 0, 0): "7"}),
    (either(NUMBER, WORD), "ba", {(): "ba", (1,): "ba"}), (either(NUMBER, COMMA), ",", {(): ","}),
    (either(NUMBER, skip(WORD)), "ab", {(): "ab"}), (either(NUMBER, row(COMMA, WORD)), ",ab", {
        (): ",ab", (1,): ",ab", (1, 0): "ab"}),
    (either(either(NUMBER, row(COMMA, WORD))), ",b", {(): ",b", (1,): ",b", (1, 1): ",b", (1, 1, 0): "b"}),
    (MAYBE, "", {(): "", (1,): ""}), (MAYBE, ",", {(): ","}),
    (again(AB), "", {(): ""}), (again(AB), "ba", {(): "ba", (0,): "b", (1,): "a"}),
    (again(NUMBER, COMMA), "10,2,0", {(): "10,2,0", (0,): "10", (1,): "2", (2,): "0"}),
    (again(NUMBER, skip(row(COMMA, BLANKS))), "1,  2,\n3", {(): "1,  2,\n3", (0,): "1", (1,): "2", (2,): "3"}),
    (again(row(NUMBER, BLANKS), COMMA), "1 ,2", {(): "1 ,2", (0,): "1 ", (0, 0): "1", (1,): "2", (1, 0): "2"}),
    (again(COMMA), ",,", {(): ",,"}), (again(skip(AB), COMMA), "a,b", {(): "a,b"}),
    (counted(":", AB), "0:", {(): "0:"}), (counted(":", AB), "2:ab", {(): "2:ab", (0,): "a", (1,): "b"}),
    (counted("::", row(NUMBER, COMMA)), "2::1,23,", {
        (): "2::1,23,", (0,): "1,", (0, 0): "1", (1,): "23,", (1, 0): "23"}),
    (counted(":", EMPTY), "2:", {(): "2:", (0,): "", (1,): ""}), (counted(":", COMMA), "2:,,", {(): "2:,,"}),
    (counted(":", AB), "10:aaaaabbbbb", {(): "10:aaaaabbbbb", **{(at,): "aaaaabbbbb"[at] for at in range(10)}}),
    (("turned", row(NUMBER, AB), (((1, "a"), (1, "b")),)), "1a", {(): "1a"}),
    (("turned", NUMBER, ((0, 12),)), "12", {(): "12"}),
    (row(COMMA, ("turned", again(AB, COMMA), (((), ("a",)),)), NUMBER), ",a,b7", {(): ",a,b7", (0,): "a,b", (1,): "7"}),
    (B, "ab", {(): "ab"}), (C, ",", {(): ","}), (row(B, C, text(";"), C), "ab,;,", {
        (): "ab,;,", (0,): "ab", (1,): ",", (2,): ","}),
    (again(C, text(";")), ",;,", {(): ",;,", (0,): ",", (1,): ","}), (either(NUMBER, C), ",", {(): ",", (1,): ","}),
    (row(MAYBE, again(AB), NUMBER), "5", {(): "5", (0,): "", (0, 1): "", (1,): "", (2,): "5"}),
    (row(row(), NUMBER, row(), SPELT), "5", {(): "5", (0,): "", (1,): "5", (2,): "", (3,): ""}),
)


class Spans(Asking):
    def spans(self, asked, told):
        """The spans, asked twice, of just plain kinds."""
        before = snapshot((asked, told))
        found = spans(asked, told)
        self.assertEqual(snapshot(found), snapshot(spans(asked, told)))
        self.assertEqual(before, snapshot((asked, told)))
        self.assertIs(type(found), dict)
        for path, span in found.items():
            self.assertIs(type(path), tuple)
            self.assertTrue(all(type(step) is int for step in path))
            self.assertEqual((type(span), len(span), type(span[0]), type(span[1])), (tuple, 2, int, int))
        self.held(asked, told, found)
        return found

    def held(self, asked, told, found):
        """Each path leads to a part of the worth, and stands within what tells the part around it."""
        worth = read(asked, told)
        self.assertEqual(found[()], (0, len(told)))
        for path, (start, end) in found.items():
            part = worth
            for step in path:
                part = part[step]
            self.assertTrue(0 <= start <= end <= len(told))
            if path:
                around = found[path[:-1]]
                self.assertTrue(around[0] <= start and end <= around[1])
                ahead = found.get(path[:-1] + (path[-1] - 1,))
                if ahead is not None:
                    self.assertLessEqual(ahead[1], start)

    def test_each_word(self):
        for form, told, parts in TOLD_BY:
            asked = book(a=form, b=WORD, c=COMMA)
            self.assertEqual(verdict(asked), ("let",), form)
            found = self.spans(asked, told)
            self.assertEqual({path: told[start:end] for path, (start, end) in found.items()}, parts, form)
            self.assertEqual(found, descent.spans_of(asked, told))

    def test_within_others(self):
        for form, told, parts in TOLD_BY:
            asked = book(a=row(text("~"),
            again(row(either(COMMA, ("named", "d"))), text("-")), text("~")), b=WORD, c=COMMA,
                         d=form)
            if verdict(asked) != ("let",):
                continue
            found = self.spans(asked, f"~{told}-{told}~")
            wanted = {(): (0, 3 + 2 * len(told)), (0,): (1, 2 + 2 * len(told))}
            for at, start in ((0, 1), (1, 2 + len(told))):
                wanted[(0, at)] = wanted[(0, at, 0)] = wanted[(0, at, 0, 1)] = (start, start + len(told))
                for path, span in spans(book(a=form, b=WORD, c=COMMA), told).items():
                    wanted[(0, at, 0, 1) + path] = (start + span[0], start + span[1])
            self.assertEqual(found, wanted)

    def test_parts_of_no_signs(self):
        asked = book(a=row(AB, EMPTY, COMMA, again(text("x")), SPELT, MAYBE, text(";"), BLANKS, B), b=EMPTY)
        self.assertEqual(self.spans(asked, "a,;  "), {
            (): (0, 5), (0,): (0, 1), (1,): (1, 1), (2,): (2, 2), (3,): (2, 2), (4,): (2, 2), (4, 1): (2, 2),
            (5,): (5, 5)})

    def test_whole_books(self):
        for asked, told, _ in TOLD:
            self.assertEqual(self.spans(asked, told), descent.spans_of(asked, told))
        found = self.spans(VALUES, '[1, {"x":yes } ]')
        texts = {path: '[1, {"x":yes } ]'[start:end] for path, (start, end) in found.items()}
        self.assertEqual(texts[(1, 0)], '1, {"x":yes } ')
        self.assertEqual(texts[(1, 0, 0)], "1")
        self.assertEqual(texts[(1, 0, 1)], '{"x":yes } ')
        self.assertEqual(texts[(1, 0, 1, 1, 0)], '"x":yes ')
        self.assertEqual(texts[(1, 0, 1, 1, 0, 0)], '"x":yes ')
        self.assertEqual(texts[(1, 0, 1, 1, 0, 0, 0)], '"x"')
        self.assertEqual(texts[(1, 0, 1, 1, 0, 0, 0, 0)], "x")
        self.assertEqual(texts[(1, 0, 1, 1, 0, 0, 1, 1)], "yes ")

    def test_names_within_names(self):
        for many in (1, 5, 24):
            told = "(" * many + ")" * many
            found = self.spans(BRACKETS, told)
            path = ()
            for at in range(many):
                self.assertEqual(found[path], (at, 2 * many - at))
                self.assertEqual(found[path + (0,)], (at + 1, 2 * many - at - 1))
                path += (0, 0)
            self.assertEqual(len(found), 2 * many)

    def test_long_texts(self):
        told = ",".join("ab" * 375) + "," + "a"
        found = self.spans(book(a=again(AB, COMMA)), told)
        self.assertEqual(len(found), 752)
        self.assertEqual(found[(750,)], (1500, 1501))

    def test_small_books(self):
        for asked in LET_BOOKS[::3]:
            for told, _, _ in walks_of(asked, 3, 6)[:40]:
                self.assertEqual(spans(asked, told), descent.spans_of(asked, told))
        for form, told, _, _ in WALKS:
            if verdict(book(a=form)) == ("let",):
                self.assertEqual(spans(book(a=form), told), descent.spans_of(book(a=form), told))

    def test_fails_as_read(self):
        self.fails(2, "c", False, spans, book(a=text("abc")), "abd")
        self.fails(0, "ab", False, spans, book(a=WORD), "")
        self.fails(3, "ab", True, spans, book(a=WORD), "abac")
        self.fails(3, "ab", False, spans, book(a=counted(":", AB)), "2:a")
        self.fails(2, "", True, spans, BRACKETS, "())")

    def test_two_books_by_turns(self):
        one, other = book(a=again(B), b=row(AB, AB)), book(a=again(B), b=AB)
        for _ in range(2):
            self.assertEqual(len(self.spans(one, "abab")), 7)
            self.assertEqual(len(self.spans(other, "abab")), 5)


if __name__ == "__main__":
    unittest.main()
