"""Shortening: a book with fewer forms and names, of the same texts with the same ways and worths."""

from readtell.alikes import alike_names
from readtell.books import names_met
from readtell.changing import changed, renamed
from readtell.forms import BARE
from readtell.rows import all_forms, form_table


def shorter(book):
    """The book made as short as can be by the changes below."""
    book = _of_names_met(book)
    size = None
    # Each change leaves fewer forms, or, when the names that aren't met any more are gone, fewer names.
    while size != _size(book):
        size = _size(book)
        book = _of_names_met(_without_alikes(_without_leading(_tidied(book))))
    return book


def _size(book):
    """How many forms a book has, and names."""
    return len(book[1]) + sum([len(all_forms(form)) for _, form in book[1]])


def _of_names_met(book):
    """The book without the names that aren't met."""
    met = names_met(book)
    return (book[0], tuple([row for row in book[1] if row[0] in met]))


def _tidied(book):
    """The book with each of its forms tidied."""
    return (book[0], tuple([(name, changed(form, _tidied_form)) for name, form in book[1]]))


def _tidied_form(form, _):
    """The form, tidied, if what stands within it is tidied already."""
    if form[0] == "skip" and form[1][0] in BARE:
        return form[1]
    if form[0] == "row":
        return ("row", tuple(_joined_texts(form[1])))
    return form


def _joined_texts(forms):
    """The list of these forms, with one text for each few that stand beside one another."""
    found = []
    for form in forms:
        if form[0] == "text" and found and found[-1][0] == "text":
            found[-1] = ("text", found[-1][1] + form[1])
        else:
            found.append(form)
    return found


def _without_leading(book):
    """The book with, for each name whose form is a named one, the name that it leads to."""
    table = form_table(book)
    return _with_names(book, {name: _led_to(table, name) for name in table})


def _led_to(table, name):
    # All names are met, so none leads to itself: it would have no text.
    while table[name][0] == "named":
        name = table[name][1]
    return name


def _without_alikes(book):
    """The book with one name for all that have alike forms."""
    return _with_names(book, {name: group[0] for group in alike_names(book) for name in group})


def _with_names(book, names):
    """The book with other names of its own in its forms and as its start."""
    return (names[book[0]], tuple([(name, renamed(form, names)) for name, form in book[1]]))
