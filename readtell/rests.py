"""Rests: what may still come behind the beginning of a text."""

from readtell.openings import Openings
from readtell.rows import form_table
from readtell.steps import behind_items


def begun(book):
    """The rest of which nothing is read yet."""
    return (("named", book[0]),)


def may_end(book, rest):
    """Whether the text may end here: whether all items of the rest may be empty."""
    return Openings(form_table(book)).may_all_be_empty(rest)


def wants(book, rest):
    """The rising text of the signs with which the rest can begin."""
    return Openings(form_table(book)).signs_of(rest)


def behind(book, rest, sign):
    """The rest behind the sign, None where the rest can't begin so."""
    return behind_items(Openings(form_table(book)), rest, sign)
