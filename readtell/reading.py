"""Reading: the worth of a text, and the way to it."""

from readtell.tracing import traced


def read(book, text):
    """The worth that the text is read to; refused with Fails where it isn't one of the book's."""
    return traced(book, text).worths[0]


def way_of(book, text):
    """The way of the text; refused with Fails where it isn't one of the book's."""
    return tuple(traced(book, text).way)
