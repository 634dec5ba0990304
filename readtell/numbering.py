"""Numbers of texts: a book's texts stand in order, the lesser ones first, and are numbered from 0."""

from readtell.counts import Counts
from readtell.errors import NoText
from readtell.failing import check_reads
from readtell.restnumbers import Rests


def text_at(book, k, most):
    """The text of number k; refused with NoText where it has more than most signs or there is none."""
    rests = Rests(book)
    counts = Counts(rests, most)
    left = k
    for length, many in enumerate(counts.of_rest(rests.begun)):
        if 0 <= left < many:
            return _text_of_length(counts, length, left)
        left -= many
    raise NoText("no text of this number is so short")


def number_of(book, text):
    """The number of the text; refused with Fails where it isn't one of the book's."""
    rests = Rests(book)
    check_reads(rests, text)
    counts = Counts(rests, len(text))
    number = sum(counts.of_rest(rests.begun)[:-1])
    rest = rests.begun
    for place, sign in enumerate(text):
        for lesser in rests.wanted(rest):
            if lesser < sign:
                number += counts.of_rest(rests.step(rest, lesser))[len(text) - place - 1]
        rest = rests.step(rest, sign)
    return number


def _text_of_length(counts, length, left):
    """Of the book's texts of this length the one that has so many of them ahead of it."""
    rests = counts.rests
    rest = rests.begun
    found = []
    for behind in reversed(range(length)):
        for sign in rests.wanted(rest):
            coming = rests.step(rest, sign)
            many = counts.of_rest(coming)[behind]
            if left < many:
                break
            left -= many
        found.append(sign)
        rest = coming
    return "".join(found)
