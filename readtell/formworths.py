"""Worths of the plain book that stand for forms, and the forms that they stand for.

A worth of a form is (word, rest). In the rest stands what isn't forms, and the worths of the forms
right within this one. A text stands there as a tuple of it alone, as it is written in quotes.
"""

from readtell.folding import folded
from readtell.forms import inner_forms
from readtell.thingbook import thing_of_worth, worth_of_thing


def worth_of_form(form):
    """The worth that stands for a form."""
    return folded(form, inner_forms, _told_worth)


def form_of_worth(worth):
    """The form for which a worth stands, or what would be one but for a part of it that makes none."""
    return folded(worth, _inner_worths, _told_form)


def _told_worth(form, inner):
    word = form[0]
    if word == "number":
        return (word,)
    if word in ("text", "sign", "word"):
        return (word, ((form[1],),))
    if word == "named":
        return (word, (form[1],))
    if word == "pick":
        return (word, (_listed([((text,), worth_of_thing(thing)) for text, thing in form[1]]),))
    if word == "row":
        return (word, (tuple(inner),))
    if word == "either":
        return (word, (_listed([(pair[0], worth) for pair, worth in zip(form[1], inner)]),))
    if word == "again":
        return (word, (inner[0], ("alone", ()) if form[2] is None else ("between", (inner[1],))))
    if word == "counted":
        return (word, ((form[1],), inner[0]))
    if word == "turned":
        pairs = [(worth_of_thing(one), worth_of_thing(other)) for one, other in form[2]]
        return (word, (inner[0], _listed(pairs)))
    return (word, (inner[0],))


def _inner_worths(worth):
    word = worth[0]
    if word in ("skip", "spelt", "turned"):
        return [worth[1][0]]
    if word == "row":
        return list(worth[1][0])
    if word == "either":
        return [inner for _, inner in _members(worth[1][0])]
    if word == "again":
        return [worth[1][0]] + list(worth[1][1][1])
    if word == "counted":
        return [worth[1][1]]
    return []


def _told_form(worth, inner):
    word = worth[0]
    if word == "number":
        return (word,)
    if word in ("text", "sign", "word"):
        return (word, worth[1][0][0])
    if word == "named":
        return (word, worth[1][0])
    if word == "pick":
        return (word, tuple([(quote[0], thing_of_worth(thing)) for quote, thing in _members(worth[1][0])]))
    if word == "row":
        return (word, tuple(inner))
    if word == "either":
        return (word, tuple([(pair[0], form) for pair, form in zip(_members(worth[1][0]), inner)]))
    if word == "again":
        return (word, inner[0], inner[1] if len(inner) > 1 else None)
    if word == "counted":
        return (word, worth[1][0][0], inner[0])
    if word == "turned":
        pairs = [(thing_of_worth(one), thing_of_worth(other)) for one, other in _members(worth[1][1])]
        return (word, inner[0], tuple(pairs))
    return (word, inner[0])


# A list of one or more is written as its first member, and then the others, each behind a comma.


def _listed(members):
    """What stands for a list of one or more."""
    return (members[0], tuple([(member,) for member in members[1:]]))


def _members(listed):
    """The list for which this stands."""
    first, others = listed
    return [first] + [other[0] for other in others]
