"""The plain book, which reads books [25, 3 (i)]."""

import unittest

from readtell.books import is_book
from readtell.booktexts import read_book, show_book
from readtell.errors import Fails, NoBook
from readtell.going import goes_on
from readtell.looking import verdict
from readtell.plainbook import as_worth, of_worth, plain_book
from readtell.reading import read
from readtell.telling import tell
from readtell.worths import is_worth
from tests.asking import OTHER_KINDS, Asking, snapshot
from tests.book_by_hand import Descent, book_text
from tests.making import Maker
from tests.samples import LET_BOOKS, NUMBER, book, row, text
from tests.test_booktexts import BOOKS, FAILING, NO_BOOKS, SHOWN
from tests.test_looking import CLASHES

PLAIN = plain_book()


class Plain(Asking):
    def test_it_is_let(self):
        self.same(PLAIN, plain_book)
        self.yes(is_book, PLAIN)
        self.same(("let",), verdict, PLAIN)

    def test_books(self):
        for asked, told in SHOWN:
            self.book(asked, told)
        for told, asked in BOOKS:
            self.book(asked, told)
        for asked in LET_BOOKS + (PLAIN,):
            self.book(asked, book_text(asked))
        for form in CLASHES:
            self.book(book(a=form), book_text(book(a=form)))
        for seed in range(200):
            asked = Maker(seed).book()
            self.book(asked, book_text(asked))

    def book(self, asked, told):
        worth = self.told(as_worth, asked)
        self.assertEqual(show_book(asked), told)
        self.same(worth, read, PLAIN, told)
        self.assertIs(is_worth(PLAIN, PLAIN[0], worth), True)
        self.same(told, tell, PLAIN, worth)
        self.same(asked, of_worth, worth)

    def test_its_own_text(self):
        told = show_book(PLAIN)
        self.same(PLAIN, read_book, told)
        self.same(as_worth(PLAIN), read, PLAIN, told)
        self.same(PLAIN, of_worth, read(PLAIN, told))
        self.same(told, tell, PLAIN, as_worth(PLAIN))

    def test_rows_that_make_no_book(self):
        for told in NO_BOOKS:
            worth = read(PLAIN, told)
            self.refused(NoBook, of_worth, worth)
            self.same(told, tell, PLAIN, worth)

    def test_what_is_no_worth(self):
        for x in OTHER_KINDS + ((), ("a",), ("a", ()), ("a", (("a", ("number", ())),)), as_worth(book(a=NUMBER))[:1], "of a\na=n"):
            if not is_worth(PLAIN, PLAIN[0], x):
                self.refused(NoBook, of_worth, x)

    def test_it_fails_where_read_book_does(self):
        for told, place, wants, end in FAILING:
            self.fails(place, "".join(sorted(wants)), end, read, PLAIN, told)
        told = 'of ab\nab=r(t"x\\n",k(mb),p("a"=0,"b"="\\"")' ',e(x:n,yz:r()),a(n,t","),c":"n,u(r(n),(10)=(0)))\nb=k(n)'
        for at in range(len(told) + 1):
            for spoilt in [told[:at], told[at:]] + [told[:at] + sign + told[at + more:] for sign in '"(),=:m\n' for more in (0, 1)]:
                failing = Descent(spoilt).fails()
                if failing is None:
                    read(PLAIN, spoilt)
                    self.assertEqual(goes_on(PLAIN, spoilt), "")
                    continue
                for function, handed in ((read, (PLAIN, spoilt)), (read_book, (spoilt,))):
                    with self.assertRaises(Fails) as caught:
                        function(*handed)
                    values = caught.exception
                    self.assertEqual((values.place, values.wants, values.end), failing, spoilt)

    def test_rows_in_any_order(self):
        # What is so written is read, whether it makes a book or not.
        for told in ("of zz", "of a\nzz=mnone\na=n\nzz=n", 'of a\na=t""', 'of a\na=p(""=())', 'of a\na=u(n,0=0,(())=0)', "of abcdefghijkl\nabcdefghijkl=mx"):
            self.same(told, tell, PLAIN, read(PLAIN, told))

    def test_books_by_turns(self):
        one, other = book(a=row(NUMBER, text("\""))), book(a=text("x"))
        first = snapshot((as_worth(one), as_worth(other), show_book(one)))
        self.refused(NoBook, of_worth, read(PLAIN, "of a"))
        self.assertEqual(snapshot((as_worth(one), as_worth(other), show_book(one))), first)
        self.assertEqual(plain_book(), PLAIN)


if __name__ == "__main__":
    unittest.main()
