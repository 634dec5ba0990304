"""Ways that go apart: what shows that a book isn't let."""

from readtell.walking import walked


def shows_apart(book, thing):
    """Whether this, of any kind, is a tuple of two texts with ways that go apart."""
    if not _is_pair(thing):
        return False
    one, other = thing
    return _has_way(book, one) and _has_way(book, other) and _go_apart(one, other)


def _is_pair(x):
    return isinstance(x, tuple) and len(x) == 2


def _has_way(book, x):
    """Whether this, of any kind, is a text with a way of it."""
    return _is_pair(x) and isinstance(x[0], str) and walked(book, x[0], x[1]) is not None


def _go_apart(one, other):
    for mine, yours in zip(one[1], other[1]):
        if mine != yours:
            return mine[0] == yours[0] and _same_up_to(one[0], other[0], mine[0])
    return False


def _same_up_to(one, other, place):
    """Whether the texts are the same up to the place, and have the same sign there, or both end."""
    return one[:place + 1] == other[:place + 1]
