"""Items of rests: what is one, and which may stand in the rests of a book."""

from readtell.forms import inner_forms, is_form, none_begins_another
from readtell.rows import all_forms
from readtell.signs import is_number, is_told


def is_item(x):
    """Whether this, of any kind, is a form, a left item or a due one."""
    if not isinstance(x, tuple) or not x or not isinstance(x[0], str):
        return False
    if x[0] == "left":
        return len(x) == 2 and _are_left(x[1])
    if x[0] == "due":
        return len(x) == 4 and is_number(x[1]) and 1 <= x[1] <= 9 and is_told(x[2]) and is_form(x[3])
    return is_form(x)


def inner_items(item):
    """The list of the items right within an item, in order."""
    return [item[3]] if item[0] == "due" else inner_forms(item)


def forms_in(item):
    """The list of all forms in an item; a form is in itself."""
    if item[0] == "left":
        return []
    return all_forms(item[3] if item[0] == "due" else item)


def names_among(item, names):
    """Whether all names in an item are among these."""
    return all(form[1] in names for form in forms_in(item) if form[0] == "named")


def goes_nowhere(openings, item):
    """Whether an again of what may be empty stands in an item."""
    return any(form[0] == "again" and openings.may_be_empty(form[1]) for form in forms_in(item))


def _are_left(x):
    """Whether this, of any kind, is a rising tuple of one or more told texts, none of which begins another one."""
    if not isinstance(x, tuple) or not x or not all(is_told(text) for text in x):
        return False
    return all(x[k] < x[k + 1] for k in range(len(x) - 1)) and none_begins_another(x)
