"""The promise over the whole program [3 (a) to (i)], over books of all words."""

import unittest

from readtell.alikepapers import shows_alike
from readtell.apart import shows_apart
from readtell.books import is_book
from readtell.booktexts import read_book, show_book
from readtell.counting import how_many
from readtell.errors import Fails, FormError, NoText, NoWorth
from readtell.going import goes_on, mends
from readtell.holding import held
from readtell.joining import read_joined, tell_joined
from readtell.keeping import put
from readtell.leasts import endless
from readtell.looking import verdict
from readtell.numbering import number_of, text_at
from readtell.plainbook import as_worth, of_worth, plain_book
from readtell.reading import read, way_of
from readtell.shortening import shorter
from readtell.spans import spans
from readtell.telling import tell, told_book
from readtell.thingtexts import read_thing, show_thing
from readtell.walking import shows_read, walked
from readtell.worths import is_worth
from tests.asking import OTHER_KINDS, Asking
from tests.samples import (
    A, AB, B, COMMA, EMPTY, LET_BOOKS, NUMBER, PICK, SPELT, TOLD, WORD, again, book, counted, either, row, skip, text,
)
from tests.test_forms import SIGNS
from tests.test_looking import CLASHES

# All words in one book, some of them twice, with names that lead to one another.
ALL_WORDS = book(
    a=row(text("<"), again(("named", "item"), skip(row(COMMA, ("named", "blanks")))), text(">")),
    blanks=skip(again(("sign", "\n "))),
    item=either(
        NUMBER, WORD, row(text("'"), ("spelt", ("pick", (("\\'", "'"), ("x", "x"), ("y", "y")))), text("'")), A,
        row(text("#"), counted(":", row(("named", "item"), text(";")))), row(text("!"), ("turned", either(PICK, row(COMMA, SPELT)), ((("aa", 1), ("ab", ("b",))),))),
        row(text("~"), skip(NUMBER), text("~"), ("sign", "abc"), EMPTY), row(text("="), skip(skip(text("x")))),
    ),
)
ALL_TOLD = ("<>", "<1>", "<1, \n20,ab,'x\\'y'>", "<<>,<<>>>", "<#2:1;a;>", "<#0:,#1:<>;>", "<!ab,!,b,!,,!,baab,!ac>", "<~12~c,=x>", "<#11:" + "1;'x';" * 5 + "a;>")
BOOKS = LET_BOOKS + (ALL_WORDS, plain_book())


def some_texts(asked, many=24, most=12):
    """The first texts of a book, and those that the samples tell of it."""
    found = [told for one, told, _ in TOLD if one == asked] + (list(ALL_TOLD) if asked == ALL_WORDS else [])
    for k in range(many):
        try:
            found.append(text_at(asked, k, most))
        except NoText:
            break
    return found


def by_length(told):
    return (len(told), told)


class Whole(Asking):
    def test_the_books(self):
        self.yes(is_book, ALL_WORDS)
        for asked in BOOKS:
            self.assertEqual(verdict(asked), ("let",))

    def test_a_one_way_and_the_least_text(self):
        for asked in BOOKS:
            least = {}
            for told in sorted(set(some_texts(asked)), key=by_length):
                way, worth = way_of(asked, told), read(asked, told)
                self.assertIs(shows_read(asked, told, way, worth), True)
                self.assertIs(is_worth(asked, asked[0], worth), True)
                self.others(asked, told, way)
                again_told = tell(asked, worth)
                self.assertEqual(read(asked, again_told), worth)
                self.assertLessEqual(by_length(again_told), by_length(least.setdefault(repr(worth), told)))
            for x in OTHER_KINDS:
                self.refused(NoWorth, tell, asked, x)

    def others(self, asked, told, way):
        """No other way is one."""
        for at in range(min(len(way), 12)):
            place, choice = way[at]
            for step in ((place, 1 - choice), (place, choice + 1), (place + 1, choice)):
                if step != way[at]:
                    self.assertIs(walked(asked, told, way[:at] + (step,) + way[at + 1:]), None)
            self.assertIs(walked(asked, told, way[:at] + way[at + 1:]), None)

    def test_b_let_or_shown(self):
        for form in CLASHES:
            answer = verdict(book(a=form))
            self.assertEqual(answer[0], "apart")
            self.yes(shows_apart, book(a=form), answer[1:])
            for told, way in answer[1:]:
                self.assertIsNot(walked(book(a=form), told, way), None)
        for asked in (book(a=A), book(a=row(AB, B), b=row(B, COMMA)), book(a=row(COMMA, A)), book(a=either(A, B), b=("named", "a"))):
            self.same(("endless", endless(asked)[0]), verdict, asked)
        for asked in BOOKS:
            texts = some_texts(asked, 12)
            pairs = [(told, way_of(asked, told)) for told in texts]
            for one in pairs:
                for other in pairs[:12]:
                    self.no(shows_apart, asked, (one, other))

    def test_c_where_reading_fails(self):
        for asked in LET_BOOKS[::4] + (ALL_WORDS,):
            for told in some_texts(asked, 5)[-6:]:
                for at in (0, len(told) // 2, len(told)):
                    for spoilt in (told[:at] + "?" + told[at:], told[:at] + told[at + 1:], told[:at]):
                        self.failing(asked, spoilt)

    def failing(self, asked, told):
        try:
            read(asked, told)
            return
        except Fails as caught:
            failing = caught
        begin = told[:failing.place]
        more = goes_on(asked, begin)
        self.assertIsNot(more, None)
        read(asked, begin + more)
        self.assertEqual(failing.end, more == "")
        if failing.place < len(told):
            self.assertIs(goes_on(asked, told[:failing.place + 1]), None)
        for sign in SIGNS:
            end = goes_on(asked, begin + sign)
            self.assertEqual(end is not None, sign in failing.wants)
            if end is not None:
                read(asked, begin + sign + end)
        if len(told) <= 12:
            self.assertEqual(mends(asked, told), self.mended(asked, told))

    def mended(self, asked, told):
        found = {told[:at] + told[at + 1:] for at in range(len(told))}
        for at in range(len(told) + 1):
            for sign in SIGNS:
                found |= {told[:at] + sign + told[at:], told[:at] + sign + told[at + 1:]}
        return tuple(sorted([one for one in found if self.reads(asked, one)], key=by_length))

    def reads(self, asked, told):
        try:
            read(asked, told)
        except Fails:
            return False
        return True

    def test_d_numbers(self):
        for asked in BOOKS:
            many = how_many(asked, "", 6)
            texts = [text_at(asked, k, 6) for k in range(min(sum(many), 30))]
            self.assertEqual(texts, sorted(set(texts), key=by_length))
            for k, told in enumerate(texts):
                self.assertEqual(number_of(asked, told), k)
                self.assertGreater(how_many(asked, told, 0)[0], 0)
            for length in range(7):
                if sum(many[:length + 1]) <= 30:
                    self.assertEqual(many[length], len([told for told in texts if len(told) == length]))
            least = told_book(asked)
            self.assertEqual(verdict(least), ("let",))
            worths = [read(least, text_at(least, k, 8)) for k in range(min(sum(how_many(least, "", 8)), 20))]
            self.assertEqual(len(set(map(repr, worths))), len(worths))
            for k, worth in enumerate(worths):
                self.assertEqual(number_of(least, tell(asked, worth)), k)

    def test_e_kept_as_typed(self):
        for asked in BOOKS:
            texts = some_texts(asked, 6)[:10]
            for told in texts:
                self.assertEqual(put(asked, told, read(asked, told)), told)
                for other in texts:
                    anew = put(asked, told, read(asked, other))
                    self.assertEqual(read(asked, anew), read(asked, other))

    def test_e_parts_changed_alone(self):
        told = "<1, \n20,'x\\'y',#2:1;a;,!,ba,~12~c>"
        worth = read(ALL_WORDS, told)
        places = spans(ALL_WORDS, told)
        items = worth[0]
        new = (("aa", 777), ("ab", "bb"), ("ac", ("",)), ("ad", ((),)))
        for at in range(len(items)):
            for item in new:
                changed = (items[:at] + (item,) + items[at + 1:],)
                if item != items[at]:
                    anew = put(ALL_WORDS, told, changed)
                    begin, end = places[(0, at)]
                    self.assertEqual((anew[:begin], anew[len(anew) - len(told) + end:]), (told[:begin], told[end:]))
                    self.assertEqual(read(ALL_WORDS, anew), changed)
        for at in range(len(items) - 1):
            both = (items[:at] + (new[0], new[1]) + items[at + 2:],)
            first = put(ALL_WORDS, put(ALL_WORDS, told, (items[:at] + (new[0],) + items[at + 1:],)), both)
            second = put(ALL_WORDS, put(ALL_WORDS, told, (items[:at + 1] + (new[1],) + items[at + 2:],)), both)
            self.assertEqual(first, second)

    def test_f_held(self):
        others = LET_BOOKS[::6] + (ALL_WORDS, shorter(ALL_WORDS))
        for one in others:
            for other in others:
                answer = held(one, other, 40)
                if answer[0] == "parts":
                    self.assertNotEqual(self.reads(one, answer[1]), self.reads(other, answer[1]))
                    self.assertEqual(self.texts_ahead(one, answer[1]), self.texts_ahead(other, answer[1]))
                elif answer[0] == "alike":
                    self.assertIs(shows_alike(one, other, answer[1]), True)
                    self.assertEqual(how_many(one, "", 12), how_many(other, "", 12))
                    self.assertEqual(some_texts(one, 8)[-8:], some_texts(other, 8)[-8:])

    def texts_ahead(self, asked, told):
        """How many texts lesser than this one a book has, and some of them."""
        if len(told) > 24:
            return ()
        length = len(told)
        many = sum(how_many(asked, "", length)[:length])
        return (many, [text_at(asked, k, length) for k in range(min(many, 10))])

    def test_g_shorter(self):
        for asked in BOOKS:
            short = shorter(asked)
            self.assertEqual((is_book(short), verdict(short), shorter(short)), (True, ("let",), short))
            self.assertEqual(how_many(short, "", 10), how_many(asked, "", 10))
            for told in some_texts(asked, 10):
                self.assertEqual((way_of(short, told), read(short, told)), (way_of(asked, told), read(asked, told)))
                worth = read(asked, told)
                self.assertEqual(tell(short, worth), tell(asked, worth))
                for spoilt in (told + "?", told[:-1], "?" + told):
                    self.assertEqual(self.outcome(short, spoilt), self.outcome(asked, spoilt))

    def outcome(self, asked, told):
        try:
            return read(asked, told)
        except FormError as failing:
            return (type(failing).__name__, sorted(vars(failing).items()))

    def test_h_joined(self):
        strokes = {"\n": "|n", "|": "||", "<": "|l", ">": "|g"}
        spelt = ("spelt", ("pick", tuple((strokes.get(sign, sign), sign) for sign in SIGNS)))
        for one in (book(a=("spelt", ("sign", SIGNS))), book(a=B, b=spelt)):
            for other in BOOKS:
                for told in some_texts(other, 8, 8):
                    worth = read(other, told)
                    joined = tell_joined(one, other, worth)
                    self.assertEqual(read_joined(one, other, joined), worth)
                    self.assertEqual(read(one, joined), tell(other, worth))

    def test_i_books_are_read_by_a_book(self):
        plain = plain_book()
        for asked in BOOKS + tuple(book(a=form) for form in CLASHES):
            told = show_book(asked)
            self.assertEqual(read_book(told), asked)
            self.assertEqual(read(plain, told), as_worth(asked))
            self.assertEqual(of_worth(read(plain, told)), asked)
        for asked in BOOKS:
            for told in some_texts(asked, 6):
                worth = read(asked, told)
                self.assertEqual(read_thing(show_thing(worth)), worth)
        # The plain book is a book like others: made shorter, held against itself, put into its own text.
        self.assertEqual(read(shorter(plain), show_book(plain)), as_worth(plain))
        answer = held(plain, shorter(plain), 2000)
        self.assertEqual(answer[0], "alike")
        self.assertIs(shows_alike(plain, shorter(plain), answer[1]), True)
        self.assertEqual(read_book(put(plain, show_book(ALL_WORDS), as_worth(plain))), plain)


if __name__ == "__main__":
    unittest.main()
