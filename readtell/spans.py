"""Spans: from where to where in a text each part of its worth is told."""

from readtell.forms import BARE
from readtell.parts import items_of
from readtell.tracing import traced


def spans(book, text):
    """A dict from the paths of the parts of the text's worth, but those that bare forms tell, to (begin, end).

    Refused with Fails where the text isn't one of the book's.
    """
    found = {}
    todo = [((), traced(book, text).parts[0])]
    while todo:
        path, part = todo.pop()
        found[path] = (part.start, part.end)
        for step, inner in _steps_within(part)[::-1]:
            if inner.form[0] not in BARE:
                todo.append((path + step, inner))
    return found


def _steps_within(part):
    """The list of (step, inner): the parts right within this one, and the way to their worths in its worth."""
    word = part.form[0]
    if word == "named":
        return [((), part.parts[0])]
    if word == "either":
        return [((1,), part.parts[0])]
    if word == "row":
        return _numbered([inner for inner in part.parts if inner.form[0] not in BARE])
    if word in ("again", "counted"):
        return _numbered(items_of(part))
    return []


def _numbered(parts):
    return [((at,), inner) for at, inner in enumerate(parts)]
