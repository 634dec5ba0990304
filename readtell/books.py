"""Books: what is one, the forms by their names, and the names met from the start."""

from readtell.forms import is_form, is_name
from readtell.rows import all_forms, form_table, names_in
from readtell.worths import WorthAsker


def is_book(x):
    """Whether this, of any kind, is a book."""
    if not isinstance(x, tuple) or len(x) != 2 or not is_name(x[0]) or not _are_rows(x[1]):
        return False
    table = form_table(x)
    if x[0] not in table:
        return False
    for _, form in x[1]:
        if not all(name in table for name in names_in(form)):
            return False
    return _turned_worths(table)


def form_of(book, name):
    """The form that the book has by this name, None where it has none."""
    return form_table(book).get(name)


def names_met(book):
    """The rising tuple of the names come to from the start."""
    table = form_table(book)
    met = {book[0]: True}
    todo = [book[0]]
    while todo:
        for name in names_in(table[todo.pop()]):
            if name not in met:
                met[name] = True
                todo.append(name)
    return tuple(sorted(met))


def _are_rows(x):
    """Whether this, of any kind, is a rising tuple of names and forms, names unlike."""
    if not isinstance(x, tuple):
        return False
    for row in x:
        if not isinstance(row, tuple) or len(row) != 2 or not is_name(row[0]) or not is_form(row[1]):
            return False
    return all(x[k][0] < x[k + 1][0] for k in range(len(x) - 1))


def _turned_worths(table):
    """Whether the things in each turned form are worths of its f."""
    asker = WorthAsker(table)
    for name in table:
        for form in all_forms(table[name]):
            if form[0] == "turned":
                for one, other in form[2]:
                    if not asker.holds(form[1], one) or not asker.holds(form[1], other):
                        return False
    return True
