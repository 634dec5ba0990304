"""Telling: the least text of a worth, and the book of the texts so told."""

from readtell.changing import changed
from readtell.errors import NoWorth
from readtell.leasts import least_of, least_texts
from readtell.rows import form_table
from readtell.tellers import Teller
from readtell.worths import is_worth


def tell(book, worth):
    """The least text that reads to this worth; refused with NoWorth, of any kind, where it is none."""
    if not is_worth(book, book[0], worth):
        raise NoWorth("no worth of the start of this book")
    return Teller(form_table(book)).tells(("named", book[0]), worth)


def told_book(book):
    """The book in which what is skipped is told by the least texts."""
    leasts = least_texts(form_table(book))
    return (book[0], tuple([(name, _told_form(form, leasts)) for name, form in book[1]]))


def _told_form(form, leasts):
    """The form with, for each skip in it, the text that tells it."""
    return changed(form, lambda part, before: _told_skip(before, leasts) if part[0] == "skip" else part)


def _told_skip(form, leasts):
    least = least_of(form, leasts)
    if least is None:
        return form
    return ("text", least) if least != "" else ("skip", ("row", ()))
