"""Changing forms: other forms or other names in place of those within them."""

from readtell.folding import folded
from readtell.forms import inner_forms


def changed(form, told_of):
    """What told_of tells of the form, which has within it what told_of tells of the forms there, and so on.

    told_of(form, before) is handed each form with the changed ones within it, and as it was before.
    """
    return folded(form, inner_forms, lambda part, inner: told_of(with_inner(part, inner), part))


def with_inner(form, inner):
    """The form with these forms in place of those right within it, in order."""
    word = form[0]
    if word in ("skip", "spelt"):
        return (word, inner[0])
    if word == "row":
        return (word, tuple(inner))
    if word == "either":
        return (word, tuple([(pair[0], other) for pair, other in zip(form[1], inner)]))
    if word == "again":
        return (word, inner[0], None if form[2] is None else inner[1])
    if word == "counted":
        return (word, form[1], inner[0])
    if word == "turned":
        return (word, inner[0], form[2])
    return form


def renamed(form, names):
    """The form with other names, by a dict from names to these."""
    return changed(form, lambda part, before: ("named", names[before[1]]) if before[0] == "named" else part)
