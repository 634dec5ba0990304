"""Books written as texts."""

from readtell.plainbook import as_worth, made_book, plain_book
from readtell.reading import read
from readtell.rows import form_table
from readtell.tellers import Teller


def show_book(book):
    """The text of a book."""
    plain = plain_book()
    return Teller(form_table(plain)).tells(("named", plain[0]), as_worth(book))


def read_book(text):
    """The book that is so written.

    Refused with Fails where no rows of forms are so written, then with NoBook where they make no book.
    """
    return made_book(read(plain_book(), text))
