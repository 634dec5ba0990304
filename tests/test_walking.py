"""Ways [7, 8]."""

import unittest

from readtell.books import is_book
from readtell.walking import shows_read, walked
from tests.asking import OTHER_KINDS, Asking, nested, snapshot
from tests.brute import walks_of
from tests.test_books import A, book
from tests.test_forms import NUMBER

B = ("named", "b")
COMMA = ("text", ",")
AB = ("sign", "ab")

# Form, text, way and worth, of forms of which each text has one way.
WALKS = (
    (("text", "a"), "a", (), ()),
    (("text", "a\n b"), "a\n b", (), ()),
    (("skip", ("word", "ab")), "ba", ((1, 1), (2, 0)), ()),
    (("skip", NUMBER), "0", (), ()),
    (AB, "b", (), "b"),
    (("word", "ab"), "a", ((1, 0),), "a"),
    (("word", "ab"), "abb", ((1, 1), (2, 1), (3, 0)), "abb"),
    (NUMBER, "0", (), 0),
    (NUMBER, "7", ((1, 0),), 7),
    (NUMBER, "10", ((1, 1), (2, 0)), 10),
    (NUMBER, "9007", ((1, 1), (2, 1), (3, 1), (4, 0)), 9007),
    (("pick", (("a", "x"), ("bc", 7), ("bd", ""))), "a", (), "x"),
    (("pick", (("a", "x"), ("bc", 7), ("bd", ""))), "bc", (), 7),
    (("pick", (("a", "x"), ("bc", 7), ("bd", ""))), "bd", (), ""),
    (("spelt", AB), "", ((0, 0),), ""),
    (("spelt", AB), "a", ((0, 1), (1, 0)), "a"),
    (("spelt", AB), "aba", ((0, 1), (1, 1), (2, 1), (3, 0)), "aba"),
    (("spelt", ("pick", (("aa", "x"), ("b", "a")))), "baab", ((0, 1), (1, 1), (3, 1), (4, 0)), "axa"),
    (("row", ()), "", (), ()),
    (("row", (COMMA,)), ",", (), ()),
    (("row", (AB, COMMA, NUMBER, ("skip", AB))), "a,10b", ((3, 1), (4, 0)), ("a", 10)),
    (("row", (("row", ()), ("row", (AB,)), AB)), "ab", (), ((), ("a",), "b")),
    (("either", (("p", NUMBER),)), "0", ((0, 0),), ("p", 0)),
    (("either", (("p", NUMBER), ("q", COMMA), ("r", ("skip", AB)), ("s", ("row", ())))), "5", ((0, 0), (1, 0)),
        ("p", 5)),
    (("either", (("p", NUMBER), ("q", COMMA), ("r", ("skip", AB)), ("s", ("row", ())))), ",", ((0, 1),), ("q",)),
    (("either", (("p", NUMBER), ("q", COMMA), ("r", ("skip", AB)), ("s", ("row", ())))), "b", ((0, 2),), ("r",)),
    (("either", (("p", NUMBER), ("q", COMMA), ("r", ("skip", AB)), ("s", ("row", ())))), "", ((0, 3),), ("s", ())),
    (("again", AB, None), "", ((0, 0),), ()),
    (("again", AB, None), "b", ((0, 1), (1, 0)), ("b",)),
    (("again", AB, None), "bab", ((0, 1), (1, 1), (2, 1), (3, 0)), ("b", "a", "b")),
    (("again", NUMBER, COMMA), "", ((0, 0),), ()),
    (("again", NUMBER, COMMA), "0", ((0, 1), (1, 0)), (0,)),
    (("again", NUMBER, COMMA), "0,5,0", ((0, 1), (1, 1), (3, 0), (3, 1), (5, 0)), (0, 5, 0)),
    (("again", AB, ("skip", NUMBER)), "a1b", ((0, 1), (1, 1), (2, 0), (3, 0)), ("a", "b")),
    (("again", COMMA, ("text", ";")), ",;,", ((0, 1), (1, 1), (3, 0)), ((), ())),
    (("again", COMMA, None), ",,", ((0, 1), (1, 1), (2, 0)), ((), ())),
    (("counted", ":", AB), "0:", (), ()),
    (("counted", ":", AB), "1:b", ((1, 0),), ("b",)),
    (("counted", ":x", AB), "2:xba", ((1, 0),), ("b", "a")),
    (("counted", ":", AB), "9:ababababa", ((1, 0),), tuple("ababababa")),
    (("counted", ":", AB), "10:aaaaabbbbb", ((1, 1),), tuple("aaaaabbbbb")),
    (("counted", ":", AB), "99:" + "b" * 99, ((1, 1),), ("b",) * 99),
    (("counted", ":", NUMBER), "3:070", ((1, 0), (4, 0)), (0, 7, 0)),
    (("counted", ":", ("row", ())), "12:", ((1, 1),), ((),) * 12),
    (("counted", ":", COMMA), "2:,,", ((1, 0),), ((), ())),
    (("turned", NUMBER, ((0, 12), (5, 7))), "0", (), 12),
    (("turned", NUMBER, ((0, 12), (5, 7))), "12", ((1, 1), (2, 0)), 0),
    (("turned", NUMBER, ((0, 12), (5, 7))), "5", ((1, 0),), 7),
    (("turned", NUMBER, ((0, 12), (5, 7))), "7", ((1, 0),), 5),
    (("turned", NUMBER, ((0, 12), (5, 7))), "1", ((1, 0),), 1),
    (("turned", ("row", (AB, AB)), ((("a", "b"), ("b", "a")),)), "ab", (), ("b", "a")),
    (("turned", ("row", (AB, AB)), ((("a", "b"), ("b", "a")),)), "aa", (), ("a", "a")),
    (("turned", ("turned", AB, (("a", "b"),)), (("a", "b"),)), "a", (), "a"),
    (("row", (("again", ("row", (("either", (("p", NUMBER), ("q", COMMA))), ("text", ";"))), None), ("text", "."))),
     "10;,;.", ((0, 1), (0, 0), (1, 1), (2, 0), (3, 1), (3, 1), (5, 0)), (((("p", 10),), (("q",),)),)),
)


class Walks(Asking):
    def test_a_walk_by_each_word(self):
        for form, text, way, worth in WALKS:
            self.walk(book(a=form), text, way, worth)

    def test_by_names(self):
        for form, text, way, worth in WALKS:
            self.walk(book(a=B, b=("named", "c"), c=form), text, way, worth)
            self.walk(("c", (("a", form), ("b", A), ("c", B))), text, way, worth)

    def test_beside_others(self):
        for form, text, way, worth in WALKS:
            bare = form[0] in ("text", "skip")
            later = tuple((place + 2, choice) for place, choice in way)
            worths = ("b",) if bare else ("b", worth)
            row = ("row", (AB, COMMA, form, ("text", ";")))
            self.walk(book(a=row), "b," + text + ";", later, worths)
            self.walk(book(a=("row", (AB, COMMA, B, ("text", ";"))), b=form), "b," + text + ";", later, ("b", worth))
            choice = ("either", (("p", COMMA), ("q", row)))
            self.walk(book(a=choice), "b," + text + ";", ((0, 1),) + later, ("q", worths))
            self.walk(book(a=("skip", row)), "b," + text + ";", later, ())

    def walk(self, asked, text, way, worth):
        self.assertTrue(is_book(asked))
        self.same(worth, walked, asked, text, way)
        self.yes(shows_read, asked, text, way, worth)
        for other in ways_beside(way):
            self.same(None, walked, asked, text, other)
            self.no(shows_read, asked, text, other, worth)

    def test_other_texts(self):
        for form, text, way, _ in WALKS:
            if len(text) > 6:
                continue
            asked = book(a=form)
            worths = {(text, way): worth for text, way, worth in walks_of(asked, len(text) + 1, len(way))}
            for other in texts_beside(text):
                self.same(worths.get((other, way)), walked, asked, other, way)

    def test_texts_longer_than_the_way(self):
        for form, text, way, worth in WALKS:
            for more in ("a", "0", ",", " ", text or "a"):
                self.same(None, walked, book(a=form), text + more, way)
                self.no(shows_read, book(a=form), text + more, way, worth)

    def test_ways_longer_than_the_text(self):
        for form, text, way, _ in WALKS:
            for place in range(len(text) + 2):
                for choice in (0, 1):
                    self.same(None, walked, book(a=form), text, way + ((place, choice),))

    def test_texts_of_other_letters(self):
        for form, text, way, _ in WALKS:
            for letter in ("\t", "\xe4", chr(37), "\u0661", "\uff10"):
                for at in range(min(len(text), 5)):
                    self.same(None, walked, book(a=form), text[:at] + letter + text[at + 1:], way)

    def test_no_ways(self):
        for form, text, way, worth in WALKS:
            asked = book(a=form)
            for x in OTHER_KINDS + (0, 1, "a", text, form, list(way), [], {way: 1}, ((),), (0,), ("01",),
                    nested((), 80)):
                self.same(None, walked, asked, text, x)
                self.no(shows_read, asked, text, x, worth)
            for at, step in enumerate(way):
                for x in (list(step), step + (0,), step[:1], (), None, 0, "01", (str(step[0]), step[1]),
                          (step[0], str(step[1])), (float(step[0]), step[1]), (step[0], float(step[1])),
                          (step[0], None), (step, step), {step: 1}, (-1, step[1]), (step[0], -1), step[::-1] + (0,)):
                    self.same(None, walked, asked, text, way[:at] + (x,) + way[at + 1:])
                for truth in (True, False):
                    self.same(None, walked, asked, text, way[:at] + ((truth, step[1]),) + way[at + 1:])
                    self.same(None, walked, asked, text, way[:at] + ((step[0], truth),) + way[at + 1:])

    def test_figures_behind_a_nought(self):
        for text, ways in (("05", [(), ((1, 0),), ((1, 1), (2, 0))]),
                ("00", [(), ((1, 0),), ((1, 1), (2, 0)), ((1, 1),)])):
            for way in ways:
                self.same(None, walked, book(a=NUMBER), text, way)
        counted = book(a=("counted", ":", AB))
        for text in ("00:", "01:a", "05:aaaaa", "0:a", "100:" + "a" * 100, ":"):
            for way in ((), ((1, 0),), ((1, 1),), ((1, 1), (2, 0)), ((1, 1), (2, 1))):
                self.same(None, walked, counted, text, way)
        self.same(None, walked, book(a=("row", (NUMBER, NUMBER))), "05", ())
        self.same((0, 5), walked, book(a=("row", (NUMBER, NUMBER))), "05", ((2, 0),))

    def test_counts_that_do_not_fit(self):
        counted = book(a=("counted", ":", AB))
        for many in (0, 1, 8, 9, 10, 11, 98, 99):
            figures = str(many)
            way = ((1, len(figures) - 1),) if many else ()
            self.same(("a",) * many, walked, counted, figures + ":" + "a" * many, way)
            self.same(None, walked, counted, figures + ":" + "a" * (many + 1), way)
            if many:
                self.same(None, walked, counted, figures + ":" + "a" * (many - 1), way)
                self.same(None, walked, counted, figures + ":" + "a" * many, ((1, 2 - len(figures)),))
                self.same(None, walked, counted, figures + ":" + "a" * many, ())

    def test_many_ways_of_one_text(self):
        twice = book(a=("row", (("spelt", AB), ("spelt", AB))))
        self.same(("ab", ""), walked, twice, "ab", ((0, 1), (1, 1), (2, 0), (2, 0)))
        self.same(("a", "b"), walked, twice, "ab", ((0, 1), (1, 0), (1, 1), (2, 0)))
        self.same(("", "ab"), walked, twice, "ab", ((0, 0), (0, 1), (1, 1), (2, 0)))
        empty = book(a=("again", ("row", ()), None))
        self.same((), walked, empty, "", ((0, 0),))
        self.same(((), (), ()), walked, empty, "", ((0, 1), (0, 1), (0, 1), (0, 0)))
        begun = book(a=("either", (("p", AB), ("q", ("row", (AB,))), ("r", ("text", "a")))))
        self.same(("p", "a"), walked, begun, "a", ((0, 0),))
        self.same(("q", ("a",)), walked, begun, "a", ((0, 1),))
        self.same(("r",), walked, begun, "a", ((0, 2),))
        self.same(None, walked, begun, "a", ((0, 3),))
        self.same(None, walked, begun, "b", ((0, 2),))

    def test_what_a_picked_thing_is_stays(self):
        picks = book(a=("again", ("pick", (("a", "1"), ("b", 1))), None))
        self.same(("1", 1, "1"), walked, picks, "aba", ((0, 1), (1, 1), (2, 1), (3, 0)))

    def test_long_texts(self):
        number = "1234567890" * 450
        way = tuple((place, 1) for place in range(1, 4500)) + ((4500, 0),)
        self.assertEqual(walked(book(a=NUMBER), number, way) // 10 ** 4490, 1234567890)
        again = book(a=("again", AB, COMMA))
        text = ",".join("ab" * 1000)
        way = ((0, 1),) + tuple((place, 1) for place in range(1, len(text), 2)) + ((len(text), 0),)
        self.same(tuple("ab" * 1000), walked, again, text, way)
        self.same(None, walked, again, text[:-2], way)


class RingsOfNames(Asking):
    def test_no_end_without_a_decision(self):
        rings = (
            book(a=A), book(a=B, b=A), book(a=B, b=("named", "c"), c=B), book(a=("row", (A,))), book(a=("skip", A)),
            book(a=("row", (COMMA, A))), book(a=("row", (A, COMMA))), book(a=("row", (B, A)), b=("row", ())),
            book(a=("row", (B, B)), b=("skip", ("row", (A,)))),
            book(a=("row", (("row", ()), ("skip", B))), b=("row", (A,))),
            book(a=("row", (NUMBER, A))), book(a=("row", (AB, B)), b=("row", (A, AB))),
        )
        for asked in rings:
            self.assertTrue(is_book(asked))
            for text in ("", ",", "a", ",,,,", "0", "0000", "ab", "a" * 40):
                for way in ((), ((0, 0),), ((0, 1),), ((1, 0),), ((0, 0),) * 20, None):
                    self.same(None, walked, asked, text, way)
                    self.no(shows_read, asked, text, way, ())

    def test_a_name_twice_without_a_ring(self):
        asked = book(a=("row", (B, B, ("skip", B), B)), b=("row", (("named", "c"), ("named", "c"))), c=("row", ()))
        self.same((((), ()), ((), ()), ((), ())), walked, asked, "", ())

    def test_round_and_round_by_decisions(self):
        asked = book(a=("either", (("x", A), ("y", ("row", ())))))
        for many in (0, 1, 2, 18, 19, 24, 60):
            way = ((0, 0),) * many + ((0, 1),)
            self.same(("y", ()) if many == 0 else round_and_round(many), walked, asked, "", way)
            self.same(None, walked, asked, "", ((0, 0),) * many)
            self.same(None, walked, asked, "", way + ((0, 1),))
            self.same(None, walked, asked, ",", way)

    def test_round_and_round_by_names_and_rows(self):
        asked = book(a=("row", (("skip", ("row", ())), B)), b=("either", (("x", ("named", "c")), ("y", COMMA))),
                c=("row", (A,)))
        for many in (0, 1, 2, 18, 24, 60):
            worth = (("y",),)
            for _ in range(many):
                worth = (("x", (worth,)),)
            self.same(worth, walked, asked, ",", ((0, 0),) * many + ((0, 1),))
            self.same(None, walked, asked, "", ((0, 0),) * many + ((0, 1),))

    def test_round_and_round_by_again(self):
        asked = book(a=("again", A, None))
        for many in (1, 2, 18, 24, 60):
            way = ((0, 1),) * many + ((0, 0),) * (many + 1)
            self.same(nested((), many), walked, asked, "", way)
        self.same(((), (), ((),)), walked, asked, "",
                ((0, 1), (0, 0), (0, 1), (0, 0), (0, 1), (0, 1), (0, 0), (0, 0), (0, 0)))

    def test_deep_names_by_signs(self):
        asked = book(a=("row", (("text", "("), ("again", A, None), ("text", ")"))))
        for many in (1, 2, 24, 80, 400):
            way = tuple((place, 1) for place in range(1, many)) + tuple((place, 0) for place in range(many, 2 * many))
            text = "(" * many + ")" * many
            worth = walked(asked, text, way)
            self.assertIs(type(worth), tuple)
            self.assertIs(walked(asked, text[:-1], way), None)
            self.assertIs(walked(asked, text + ")", way), None)
            self.assertIs(shows_read(asked, text, way, worth), True)
            self.assertIs(shows_read(asked, text, way, (worth,)), False)
            self.assertIs(shows_read(asked, text, way, worth[0]), False)

    def test_long_rounds_end(self):
        asked = book(a=("either", (("x", A), ("y", ("row", ())))))
        way = ((0, 0),) * 3000 + ((0, 1),)
        worth = walked(asked, "", way)
        self.assertIs(shows_read(asked, "", way, worth), True)
        self.assertIs(shows_read(asked, "", way, worth[1]), False)


class ShowsRead(Asking):
    def test_just_the_worth(self):
        for form, text, way, worth in WALKS:
            asked = book(a=form)
            self.yes(shows_read, asked, text, way, worth)
            for other in worths_beside(worth):
                self.no(shows_read, asked, text, way, other)
            for other in OTHER_KINDS + ("x1", 77, (worth,), [worth], (worth, worth)):
                self.no(shows_read, asked, text, way, other)

    def test_none_is_no_worth_where_there_is_no_way(self):
        self.no(shows_read, book(a=AB), "a", None, None)
        self.no(shows_read, book(a=AB), "c", (), None)
        self.no(shows_read, book(a=AB), "a", ((0, 0),), None)

    def test_truths_are_no_numbers(self):
        for text, way, truth in (("0", (), False), ("1", ((1, 0),), True)):
            asked = book(a=NUMBER)
            self.yes(shows_read, asked, text, way, int(truth))
            self.no(shows_read, asked, text, way, truth)
            self.no(shows_read, asked, text, way, float(truth))
            row = book(a=("row", (NUMBER,)))
            self.yes(shows_read, row, text, way, (int(truth),))
            self.no(shows_read, row, text, way, (truth,))
            self.no(shows_read, row, text, way, [int(truth)])
        self.no(shows_read, book(a=NUMBER), "1", ((True, 0),), 1)
        self.no(shows_read, book(a=NUMBER), "1", ((1, False),), 1)

    def test_at_any_depth(self):
        asked = book(a=("row", (NUMBER, ("again", ("row", (AB, ("counted", ":", NUMBER))), COMMA))))
        text = "1a0:,b2:04"
        way = ((1, 0), (1, 1), (4, 1), (7, 0), (10, 0), (10, 0))
        worth = (1, (("a", ()), ("b", (0, 4))))
        self.yes(shows_read, asked, text, way, worth)
        for other in worths_beside(worth):
            self.no(shows_read, asked, text, way, other)


def round_and_round(many):
    worth = ("y", ())
    for _ in range(many):
        worth = ("x", worth)
    return worth


def ways_beside(way):
    """Ways near this one: a number one more or less, a decision left out, put in, twice, two exchanged."""
    found = []
    for at, (place, choice) in enumerate(way):
        for step in ((place + 1, choice), (place - 1, choice), (place, choice + 1), (place, choice - 1),
                     (place, choice + 2), (place, 10 ** 20), (10 ** 20, choice)):
            found.append(way[:at] + (step,) + way[at + 1:])
        found.append(way[:at] + way[at + 1:])
        found.append(way[:at] + (way[at],) + way[at:])
        found.append(way[:at] + ((place, 1 - choice),) + way[at:])
        found.append(way[:at] + way[at + 1:at + 2] + (way[at],) + way[at + 2:])
    for at in range(len(way) + 1):
        found.append(way[:at] + ((at, 0),) + way[at:])
        found.append(way[:at] + ((at, 1),) + way[at:])
    return [other for other in found if other != way]


def texts_beside(text):
    """Texts near this one: a sign exchanged, left out, put in."""
    found = []
    for sign in "ab01,;x:":
        found.extend([text[:at] + sign + text[at + 1:] for at in range(len(text))])
        found.extend([text[:at] + sign + text[at:] for at in range(len(text) + 1)])
    return found + [text[:at] + text[at + 1:] for at in range(len(text))]


def worths_beside(worth):
    """Worths near this one: another number, text, truth, list, a part more or fewer, at any depth."""
    if isinstance(worth, tuple):
        found = [list(worth), worth + (0,), worth + ((),), worth + (None,), (worth,), "", 0, None, {}]
        for at, part in enumerate(worth):
            found.append(worth[:at] + worth[at + 1:])
            found.append(worth[:at] + (part, part) + worth[at + 1:])
            found.extend([worth[:at] + (other,) + worth[at + 1:] for other in worths_beside(part)])
        return [other for other in found if snapshot(other) != snapshot(worth)]
    if isinstance(worth, str):
        return [worth + "a", worth[:-1] if worth else "b", worth.upper() + "A", 0, (), (worth,), [worth], None, True,
                worth.encode()]
    return [worth + 1, worth - 1, -worth - 1, str(worth), float(worth), bool(worth), (worth,), [worth], (), None,
            complex(worth)]


if __name__ == "__main__":
    unittest.main()
