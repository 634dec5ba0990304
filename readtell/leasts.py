"""Least texts: of the forms of names and of other items of rests, and the names met that have none.

The lesser one of two texts is the shorter one, of as long ones the lesser one as texts are compared.
"""

from readtell.books import names_met
from readtell.folding import folded
from readtell.items import inner_items
from readtell.rows import form_table


def least_text(book, name):
    """The least text of this name's form, None where it has none."""
    return least_texts(form_table(book)).get(name)


def endless(book):
    """The rising tuple of the names met that have no text."""
    leasts = least_texts(form_table(book))
    return tuple([name for name in names_met(book) if name not in leasts])


def least_texts(table):
    """A dict from the names that have texts to the least ones."""
    leasts = {}
    while True:
        # No text is less than one in it. So of the names left, told by those done, the least text
        # is the least in the end, while the others may yet become less.
        found = [(least_of(table[name], leasts), name) for name in table if name not in leasts]
        found = [pair for pair in found if pair[0] is not None]
        if not found:
            return leasts
        text, done = min(found, key=lambda pair: (len(pair[0]), pair[0]))
        leasts[done] = text


def least_of(item, leasts):
    """The least text of a form, or of another item of a rest, by those of names; None where they lead to none."""
    return folded(item, inner_items, lambda part, inner: _told_least(part, inner, leasts))


def _told_least(item, inner, leasts):
    """The least text of an item, by the list of those of the items right within it."""
    word = item[0]
    if word == "text":
        return item[1]
    if word in ("sign", "word"):
        return item[1][0]
    if word == "number":
        return "0"
    if word == "pick":
        return _least([text for text, _ in item[1]])
    if word == "left":
        return _least(item[1])
    if word in ("spelt", "again"):
        return ""
    if word == "counted":
        return "0" + item[1]
    if word == "due":
        return _joined([item[2]] + inner * item[1])
    if word == "row":
        return _joined(inner)
    if word == "either":
        return _least(inner)
    if word == "named":
        return leasts.get(item[1])
    return inner[0]


def lesser_first(texts):
    """The list of these texts, the lesser ones first."""
    return sorted(texts, key=lambda text: (len(text), text))


def _joined(texts):
    """These texts, one behind another, None where one of them is None."""
    return None if None in texts else "".join(texts)


def _least(texts):
    """The least of these texts, some of which may be None; None where all are."""
    found = lesser_first([text for text in texts if text is not None])
    return found[0] if found else None
