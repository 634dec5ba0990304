"""Books written as texts [24, 3 (i)]."""

import random
import unittest

from readtell.books import is_book
from readtell.booktexts import read_book, show_book
from readtell.errors import Fails, NoBook
from readtell.looking import verdict
from readtell.plainbook import plain_book
from tests.asking import Asking, nested, snapshot
from tests.book_by_hand import LETTERS, STARTS, Descent, book_text
from tests.making import Maker
from tests.samples import A, AB, B, BRACKETS, COMMA, COUNTS, EMPTY, LET_BOOKS, NUMBER, SUMS, again, book, either, row, skip, text
from tests.test_forms import FORMS, SIGNS, within
from tests.test_looking import CLASHES
from tests.test_thingtexts import FIGURES

# Books with their texts.
SHOWN = (
    (book(a=text("x")), 'of a\na=t"x"'), (book(a=text("\n\"\\")), 'of a\na=t"\\n\\"\\\\"'), (book(a=skip(NUMBER)), "of a\na=k(n)"),
    (book(a=AB), 'of a\na=s"ab"'), (book(a=("word", "ab")), 'of a\na=w"ab"'), (book(a=NUMBER), "of a\na=n"),
    (book(a=("pick", (("a", "x"), ("bc", 7), ("bd", "")))), 'of a\na=p("a"="x","bc"=7,"bd"="")'),
    (book(a=("spelt", AB)), 'of a\na=ls"ab"'), (book(a=("spelt", ("pick", (("x", "y"),)))), 'of a\na=lp("x"="y")'),
    (book(a=EMPTY), "of a\na=r()"), (book(a=row(NUMBER)), "of a\na=r(n)"), (book(a=row(NUMBER, COMMA, AB)), 'of a\na=r(n,t",",s"ab")'),
    (book(a=("either", (("x", NUMBER),))), "of a\na=e(x:n)"), (book(a=("either", (("no", NUMBER), ("yes", EMPTY)))), "of a\na=e(no:n,yes:r())"),
    (book(a=again(NUMBER)), "of a\na=a(n)"), (book(a=again(NUMBER, COMMA)), 'of a\na=a(n,t",")'), (book(a=again(NUMBER, skip(AB))), 'of a\na=a(n,k(s"ab"))'),
    (book(a=("counted", "::", NUMBER)), 'of a\na=c"::"n'), (book(a=("turned", NUMBER, ((0, 10),))), "of a\na=u(n,0=10)"),
    (book(a=("turned", row(NUMBER), (((0,), (1,)), ((2,), (30,))))), "of a\na=u(r(n),(0)=(1),(2)=(30))"),
    (book(a=row(text("("), again(A), text(")"))), 'of a\na=r(t"(",a(ma),t")")'), (("name", (("eightful", ("named", "name")), ("name", EMPTY))),
                                                                                     "of name\neightful=mname\nname=r()"),
    (book(a=B, b=A), "of a\na=mb\nb=ma"), (("b", (("a", B), ("b", A), ("c", COMMA))), 'of b\na=mb\nb=ma\nc=t","'),
)

# Texts that aren't so written: where reading fails, what could stand there, whether that may end.
FAILING = (
    ("", 0, "o", False), ("x", 0, "o", False), ("o", 1, "f", False), ("of", 2, " ", False), ("of ", 3, LETTERS, False), ("of  a", 3, LETTERS, False),
    ("Of a", 0, "o", False), (" of a", 0, "o", False), ("of A", 3, LETTERS, False), ("of a1", 4, "\n" + LETTERS, True), ("of a ", 4, "\n" + LETTERS, True),
    ("of a\n", 5, LETTERS, False), ("of a\n\na=n", 5, LETTERS, False), ("of a\na", 6, "=" + LETTERS, False), ("of a\na =n", 6, "=" + LETTERS, False),
    ("of a\na=", 7, STARTS, False), ("of a\na= n", 7, STARTS, False), ("of a\na=x", 7, STARTS, False), ("of a\na=n\n", 9, LETTERS, False),
    ("of a\na=n ", 8, "\n", True), ("of a\na=nn", 8, "\n", True), ("of a\na=n;b=n", 8, "\n", True), ("of a\na=n b=n", 8, "\n", True),
    ("of a\na=t", 8, '"', False), ("of a\na=tx", 8, '"', False), ("of a\na=t\"x", 10, SIGNS[1:], False), ("of a\na=t\"\n\"", 9, SIGNS[1:], False),
    ("of a\na=t\"\\x\"", 10, '"\\n', False), ("of a\na=k", 8, "(", False), ("of a\na=kn", 8, "(", False), ("of a\na=k()", 9, STARTS, False),
    ("of a\na=k(n", 10, ")", False), ("of a\na=k(n,n)", 10, ")", False), ("of a\na=s", 8, '"', False), ("of a\na=w(", 8, '"', False),
    ("of a\na=p", 8, "(", False), ("of a\na=p()", 9, '"', False), ("of a\na=p(x=1)", 9, '"', False), ("of a\na=p(\"x\")", 12, "=", False),
    ("of a\na=p(\"x\"=)", 13, '"(' + FIGURES, False), ("of a\na=p(\"x\"=00)", 14, "),", False), ("of a\na=p(\"x\"=1,)", 15, '"', False),
    ("of a\na=p(\"x\"=1", 14, "),0123456789", False), ("of a\na=p(\"x\"=()", 15, "),", False), ("of a\na=p(\"x\"=())n", 16, "\n", True), ("of a\na=p(\"x\"=(,))", 14, '")(' + FIGURES, False),
    ("of a\na=l", 8, STARTS, False), ("of a\na=l(s)", 8, STARTS, False), ("of a\na=r", 8, "(", False), ("of a\na=r(", 9, ")" + STARTS, False),
    ("of a\na=r(,)", 9, ")" + STARTS, False), ("of a\na=r(n,)", 11, STARTS, False), ("of a\na=r(n n)", 10, "),", False), ("of a\na=r(n", 10, "),", False),
    ("of a\na=e()", 9, LETTERS, False), ("of a\na=e(n)", 10, ":" + LETTERS, False), ("of a\na=e(x:)", 11, STARTS, False), ("of a\na=e(x:n,)", 13, LETTERS, False),
    ("of a\na=e(x=n)", 10, ":" + LETTERS, False), ("of a\na=e(X:n)", 9, LETTERS, False), ("of a\na=a()", 9, STARTS, False), ("of a\na=a(n,)", 11, STARTS, False),
    ("of a\na=a(n,n,n)", 12, ")", False), ("of a\na=c", 8, '"', False), ("of a\na=c\":\"", 11, STARTS, False), ("of a\na=c(\":\",n)", 8, '"', False),
    ("of a\na=u(n)", 10, ",", False), ("of a\na=u(n,)", 11, '"(' + FIGURES, False), ("of a\na=u(n,0)", 12, "=", False), ("of a\na=u(n,0=1,)", 15, '"(' + FIGURES, False),
    ("of a\na=u(n,1)", 12, "=" + FIGURES, False), ("of a\na=u(n,1=1)x", 15, "\n", True), ("of a\na=u(0=1)", 9, STARTS, False), ("of a\na=m", 8, LETTERS, False),
    ("of a\na=m(a)", 8, LETTERS, False), ("of a\na=ma1", 9, "\n" + LETTERS, True), ("of a\na=u(n,(0=1)", 13, "),", False),
)

# Rows that are so written and make no form or no book.
NO_BOOKS = (
    "of a", "of abcdefghi", "of a\nb=n", "of b\na=n", "of a\na=n\na=n", "of a\nb=n\na=n", "of a\na=n\nc=n\nb=n", "of a\na=n\nb=n\nb=t\"x\"", "of b\nab=n\nb=n\na=n",
    "of a\na=mb", "of a\na=n\nb=mc", "of a\na=r(n,k(mb))", "of abcdefghi\nabcdefghi=n", "of a\na=n\nabcdefghi=n", "of a\na=mabcdefghi",
    'of a\na=t""', 'of a\na=k(t"")', 'of a\na=s""', 'of a\na=w""', 'of a\na=s"ba"', 'of a\na=w"aa"', 'of a\na=s"a\\n"', 'of a\na=w"acb"',
    'of a\na=p(""=1)', 'of a\na=p("a"=1,"a"=2)', 'of a\na=p("a"=1,"ab"=2)', 'of a\na=p("ab"=1,"b"=3,"a"=2)', 'of a\na=p("a"=1,"b"=1)',
    'of a\na=p("a"="x","b"="x")', 'of a\na=p("a"=())', 'of a\na=p("a"=1,"b"=(2))', 'of a\na=p("a"=("x"))',
    "of a\na=ln", 'of a\na=lt"a"', 'of a\na=lw"ab"', "of a\na=lma", 'of a\na=lls"a"', 'of a\na=lp("a"=1)', 'of a\na=lp("a"="xy")', 'of a\na=lp("a"="")',
    'of a\na=ls"ba"', 'of a\na=lr(s"a")', 'of a\na=lk(s"a")', "of a\na=e(x:n,x:n)", "of a\na=e(x:n,y:n,x:t\"a\")", "of a\na=e(abcdefghi:n)", "of a\na=e(x:mb)",
    "of a\na=a(n,n)", 'of a\na=a(n,s"a")', "of a\na=a(n,r())", "of a\na=a(n,ma)", 'of a\na=a(n,t"")', 'of a\na=a(t"",t",")', 'of a\na=a(n,a(t","))', 'of a\na=c""n',
    'of a\na=c":"s"ba"', 'of a\na=u(n,0="x")', "of a\na=u(n,0=0)", "of a\na=u(n,0=1,1=2)", "of a\na=u(n,0=1,2=0)", "of a\na=u(n,()=1)", "of a\na=u(r(n),0=1)",
    "of a\na=u(r(n),(0)=(0,1))", 'of a\na=u(s"ab","a"="c")', 'of a\na=u(t"a",()=1)', 'of a\na=u(t"",0=1)', "of a\na=u(mb,0=1)\nb=s\"01\"", 'of a\na=r(r(r(e(x:a(t"")))))',
    "of a\na=u(n,((1),2)=3)",
)

# Rows that make books, though not all of these are let.
BOOKS = (
    ("of a\na=ma", book(a=A)), ("of b\na=n\nb=mb", ("b", (("a", NUMBER), ("b", B)))), ('of a\na=e(x:t"a",y:t"a")', book(a=("either", (("x", text("a")), ("y", text("a")))))),
    ("of a\na=a(r())", book(a=again(EMPTY))), ("of a\na=u(mb,0=1)\nb=n", book(a=("turned", B, ((0, 1),)), b=NUMBER)),
    ('of a\na=c"1"n', book(a=("counted", "1", NUMBER))), ("of abcdefgh\nabcdefgh=n", ("abcdefgh", (("abcdefgh", NUMBER),))),
    ('of a\na=e(eightful:t"\\n~")', book(a=("either", (("eightful", text("\n~")),)))),
)


class Shown(Asking):
    def shown(self, asked, told):
        self.assertIs(is_book(asked), True)
        self.same(told, show_book, asked)
        self.same(asked, read_book, told)

    def test_each_word(self):
        for asked, told in SHOWN:
            self.shown(asked, told)
        for told, asked in BOOKS:
            self.shown(asked, told)

    def test_each_thing_within_each_word(self):
        for form in FORMS:
            rows = {"a": form, "abcdefgh": NUMBER}
            if form[0] != "turned":
                self.shown(book(**rows), book_text(book(**rows)))
                for outer in within(form):
                    if outer[0] != "turned":
                        asked = book(a=NUMBER, b=outer, abcdefgh=A)
                        self.shown(asked, book_text(asked))
        for sign in SIGNS:
            for form in (text(sign), ("sign", sign), ("word", sign), ("pick", ((sign, sign),)), ("counted", sign, NUMBER), ("spelt", ("pick", (("x", sign),))),
                         ("turned", ("sign", "".join(sorted(set(sign + "ab")))), ((sign, "a" if sign != "a" else "b"),))):
                self.shown(book(a=form), book_text(book(a=form)))
        for things in ((0, 1), ((), ""), (("",), ("", ("",))), (("a", (0, (1, ("\n",)))), 10 ** 119), (nested(0, 80), nested(1, 80))):
            asked = book(a=("turned", either(NUMBER, row(AB)), (things,)))
            if is_book(asked):
                self.shown(asked, book_text(asked))

    def test_turned_things(self):
        for things in (((0, ("a",)), (10 ** 119, ("\n\"\\",))), ((3, ()), (4, ("", "")))):
            form = ("row", (NUMBER, again(("spelt", ("sign", SIGNS)))))
            asked = book(a=("turned", form, (things,)))
            self.shown(asked, book_text(asked))

    def test_rings_and_many_names(self):
        names = sorted("name" + chr(97 + at) for at in range(16))
        ring = ("nameh", tuple((name, row(text("("), again(("named", names[at - 1])), text(")"))) for at, name in enumerate(names)))
        self.shown(ring, book_text(ring))
        for asked in LET_BOOKS + (SUMS, COUNTS, BRACKETS, plain_book()):
            self.shown(asked, book_text(asked))

    def test_books_that_are_not_let(self):
        for form in CLASHES:
            asked = book(a=form)
            self.assertNotEqual(verdict(asked), ("let",))
            self.shown(asked, book_text(asked))
        self.shown(book(a=row(A, B), b=B), "of a\na=r(ma,mb)\nb=mb")

    def test_small_books(self):
        for seed in range(300):
            asked = Maker(seed).book()
            self.shown(asked, book_text(asked))

    def test_deep_ones(self):
        form = NUMBER
        for at in range(60):
            form = (row(form), skip(form), again(form, COMMA), either(form, form) if at < 4 else row(COMMA, form))[at % 4]
        self.shown(book(a=form), book_text(book(a=form)))

    def test_large_ones(self):
        texts = tuple((f"{at:02}" + "x" * 4, at) for at in range(100))
        asked = book(a=row(*[row(COMMA, B) for _ in range(140)]), b=("pick", texts))
        self.shown(asked, book_text(asked))


class Refused(Asking):
    def test_what_is_not_so_written(self):
        for told, place, wants, end in FAILING:
            self.assertEqual(Descent(told).fails(), (place, "".join(sorted(wants)), end), told)
            self.fails(place, "".join(sorted(wants)), end, read_book, told)

    def test_what_makes_no_book(self):
        for told in NO_BOOKS:
            self.assertIs(Descent(told).fails(), None)
            self.refused(NoBook, read_book, told)

    def test_one_sign_otherwise_at_each_place(self):
        chance = random.Random(1)
        told = 'of ab\nab=r(t"x\\n",k(mb),s"ab",w"c",n,p("a"=0,"b"="\\"")' ',ls"z",e(x:n,yz:r()),a(n),a(n,t","),c":"n,u(r(n),(10)=(0)))\nb=k(n)'
        self.assertIs(Descent(told).fails(), None)
        read_book(told)
        for at in range(len(told) + 1):
            for sign in ["", "\n", '"', "\\", "(", ")", ",", "=", ":", "0", "a", "t", " "] + chance.sample(SIGNS, 4):
                for spoilt in (told[:at] + sign + told[at:], told[:at] + sign + told[at + 1:]):
                    self.as_it_should(spoilt)
            self.as_it_should(told[:at])
            self.as_it_should(told[at:])

    def as_it_should(self, told):
        failing = Descent(told).fails()
        if failing is not None:
            with self.assertRaises(Fails) as caught:
                read_book(told)
            values = caught.exception
            self.assertEqual((values.place, values.wants, values.end), failing, told)
            return
        try:
            found = read_book(told)
        except NoBook:
            return
        self.assertIs(is_book(found), True)
        self.assertEqual((show_book(found), book_text(found)), (told, told))

    def test_fails_ahead_of_no_book(self):
        # Where the rows aren't so written, nothing is told of what they would make.
        self.fails(12, "),", False, read_book, 'of b\na=r(t""x')
        self.fails(12, "\n", True, read_book, 'of a\na=s"ba"x')

    def test_no_more_is_kept(self):
        first = snapshot([show_book(asked) for asked, _ in SHOWN])
        self.refused(NoBook, read_book, "of a")
        self.assertEqual(first, snapshot([show_book(asked) for asked, _ in SHOWN]))


if __name__ == "__main__":
    unittest.main()
