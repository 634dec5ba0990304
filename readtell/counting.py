"""Counting: how many texts of a book begin alike."""

from readtell.counts import Counts
from readtell.failing import rest_behind
from readtell.restnumbers import Rests


def how_many(book, text, most):
    """A tuple: how many texts of the book are this one with no sign behind it, with one, and so on to the most."""
    rests = Rests(book)
    rest = rest_behind(rests, text)
    if rest is None:
        return (0,) * (most + 1)
    return tuple(Counts(rests, most).of_rest(rest))
