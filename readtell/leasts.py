"""Least texts: the least of all texts of a name's form, and the names met that have none."""

from readtell.books import names_met
from readtell.rows import form_table


def least_text(book, name):
    """The least text of this name's form, None where it has none."""
    return _least_texts(form_table(book)).get(name)


def endless(book):
    """The rising tuple of the names met that have no text."""
    leasts = _least_texts(form_table(book))
    return tuple([name for name in names_met(book) if name not in leasts])


def _least_texts(table):
    """A dict from the names that have texts to the least ones."""
    leasts = {}
    while True:
        # No text is less than one in it. So of the names left, told by those done, the least text
        # is the least in the end, while the others may yet become less.
        found = [(_least_of(table[name], leasts), name) for name in table if name not in leasts]
        found = [pair for pair in found if pair[0] is not None]
        if not found:
            return leasts
        text, done = min(found, key=lambda pair: (len(pair[0]), pair[0]))
        leasts[done] = text


def _least_of(form, leasts):
    """The least text of a form by those of names, None where they lead to none."""
    word = form[0]
    if word == "text":
        return form[1]
    if word in ("sign", "word"):
        return form[1][0]
    if word == "number":
        return "0"
    if word == "pick":
        return _lesser([text for text, _ in form[1]])
    if word in ("spelt", "again"):
        return ""
    if word == "counted":
        return "0" + form[1]
    if word == "row":
        texts = [_least_of(inner, leasts) for inner in form[1]]
        return None if None in texts else "".join(texts)
    if word == "either":
        return _lesser([_least_of(inner, leasts) for _, inner in form[1]])
    if word == "named":
        return leasts.get(form[1])
    return _least_of(form[1], leasts)


def _lesser(texts):
    """The least of these texts, some of which may be None."""
    found = [text for text in texts if text is not None]
    return min(found, key=lambda told: (len(told), told), default=None)
