"""Telling: the least text of a worth, and the book of the texts so told."""

from readtell.errors import NoWorth
from readtell.leasts import least_of, least_texts
from readtell.rows import form_table
from readtell.tellers import Teller
from readtell.worths import is_worth


def tell(book, worth):
    """The least text that reads to this worth; refused with NoWorth, of any kind, where it is none."""
    if not is_worth(book, book[0], worth):
        raise NoWorth("no worth of the start of this book")
    return Teller(form_table(book)).tells(("named", book[0]), worth)


def told_book(book):
    """The book in which what is skipped is told by the least texts."""
    leasts = least_texts(form_table(book))
    return (book[0], tuple([(name, _told_form(form, leasts)) for name, form in book[1]]))


def _told_form(form, leasts):
    """The form with, for each skip in it, the text that tells it."""
    word = form[0]
    if word == "skip":
        return _told_skip(form, leasts)
    if word == "row":
        return (word, tuple([_told_form(inner, leasts) for inner in form[1]]))
    if word == "either":
        return (word, tuple([(name, _told_form(inner, leasts)) for name, inner in form[1]]))
    if word == "again":
        between = None if form[2] is None else _told_form(form[2], leasts)
        return (word, _told_form(form[1], leasts), between)
    if word == "counted":
        return (word, form[1], _told_form(form[2], leasts))
    if word == "turned":
        return (word, _told_form(form[1], leasts), form[2])
    return form


def _told_skip(form, leasts):
    least = least_of(form, leasts)
    if least is None:
        return form
    return ("text", least) if least != "" else ("skip", ("row", ()))
