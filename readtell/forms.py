"""Names, things and forms: what is one, and what is none."""

from readtell.signs import is_number, is_set, is_text, is_told
from readtell.thingnumbers import ThingNumbers

# The words of the forms whose only worth is ().
BARE = ("text", "skip")

# Each word that a form may begin with, and how many items its tuple has.
LENGTHS = {
    "text": 2, "skip": 2, "sign": 2, "word": 2, "number": 1, "pick": 2, "spelt": 2,
    "row": 2, "either": 2, "again": 3, "counted": 3, "turned": 3, "named": 2,
}


def is_name(x):
    """Whether this, of any kind, is a text of one to eight letters a to z."""
    return isinstance(x, str) and 1 <= len(x) <= 8 and all("a" <= letter <= "z" for letter in x)


def is_thing(x):
    """Whether this, of any kind, is a text, a whole number from 0 or a tuple of things."""
    todo = [x]
    while todo:
        part = todo.pop()
        if isinstance(part, tuple):
            todo.extend(part)
        elif not is_text(part) and not is_number(part):
            return False
    return True


def is_form(x):
    """Whether this, of any kind, is a form."""
    todo = [x]
    while todo:
        part = todo.pop()
        if not _has_shape(part):
            return False
        todo.extend(inner_forms(part))
    return True


def is_bare(form):
    """Whether this is a form of which () is told alone: a text or a skip."""
    return is_form(form) and form[0] in BARE


def inner_forms(form):
    """The list of what stands as a form right within this one, in order."""
    word = form[0]
    if word in ("skip", "spelt", "turned"):
        return [form[1]]
    if word == "row":
        return list(form[1])
    if word == "either":
        return [inner for _, inner in form[1]]
    if word == "again":
        return [form[1]] if form[2] is None else [form[1], form[2]]
    if word == "counted":
        return [form[2]]
    return []


def same_thing(thing, x):
    """Whether this, of any kind, is just this thing (so that a truth is no number)."""
    todo = [(thing, x)]
    while todo:
        one, other = todo.pop()
        if isinstance(one, tuple):
            if not isinstance(other, tuple) or len(one) != len(other):
                return False
            todo.extend(list(zip(one, other)))
        elif isinstance(one, str):
            if not isinstance(other, str) or one != other:
                return False
        elif not is_number(other) or one != other:
            return False
    return True


def _has_shape(x):
    """Whether this, of any kind, is a form if what stands as a form right within it is one."""
    if not isinstance(x, tuple) or not x or not isinstance(x[0], str):
        return False
    if len(x) != LENGTHS.get(x[0]):
        return False
    holds = _SHAPES[x[0]]
    return holds(x)


def _any_shape(_):
    return True


def _text_shape(form):
    return is_told(form[1])


def _set_shape(form):
    return is_set(form[1])


def _pick_shape(form):
    if not _are_pairs(form[1]):
        return False
    for text, thing in form[1]:
        if not is_told(text) or not (is_text(thing) or is_number(thing)):
            return False
    return none_begins_another([pair[0] for pair in form[1]]) and _unlike([pair[1] for pair in form[1]])


def _spelt_shape(form):
    if not _has_shape(form[1]):
        return False
    if form[1][0] == "pick":
        return all(isinstance(thing, str) and len(thing) == 1 for _, thing in form[1][1])
    return form[1][0] == "sign"


def _row_shape(form):
    return isinstance(form[1], tuple)


def _either_shape(form):
    if not _are_pairs(form[1]) or not all(is_name(name) for name, _ in form[1]):
        return False
    return _unlike([name for name, _ in form[1]])


def _again_shape(form):
    between = form[2]
    return between is None or _has_shape(between) and between[0] in BARE


def _turned_shape(form):
    if not _are_pairs(form[2]) or not is_thing(form[2]):
        return False
    numbers = ThingNumbers()
    return _unlike([numbers.number(thing) for pair in form[2] for thing in pair])


def _named_shape(form):
    return is_name(form[1])


_SHAPES = {
    "text": _text_shape, "skip": _any_shape, "sign": _set_shape, "word": _set_shape,
    "number": _any_shape, "pick": _pick_shape, "spelt": _spelt_shape, "row": _row_shape,
    "either": _either_shape, "again": _again_shape, "counted": _text_shape,
    "turned": _turned_shape, "named": _named_shape,
}


def _are_pairs(x):
    """Whether this, of any kind, is a tuple of one or more tuples of two."""
    if not isinstance(x, tuple) or not x:
        return False
    return all(isinstance(pair, tuple) and len(pair) == 2 for pair in x)


def _unlike(many):
    """Whether no two of these texts and numbers are the same."""
    return len(set(many)) == len(many)


def none_begins_another(texts):
    # Where one text begins another one, it begins the next one in order, too.
    rising = sorted(texts)
    return not any(rising[k + 1].startswith(rising[k]) for k in range(len(rising) - 1))
