"""The rows of a book: its forms by their names, and the forms and names that stand in a form."""

from readtell.forms import inner_forms


def form_table(book):
    """A dict from the names of a book to their forms."""
    return {name: form for name, form in book[1]}


def all_forms(form):
    """The list of this form and of all forms within it."""
    found = []
    todo = [form]
    while todo:
        part = todo.pop()
        found.append(part)
        todo.extend(inner_forms(part))
    return found


def names_in(form):
    """The list of the names in this form, as often as they stand there."""
    return [part[1] for part in all_forms(form) if part[0] == "named"]
