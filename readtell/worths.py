"""Worths: which things a form tells of."""

from readtell.forms import BARE, is_thing
from readtell.rows import form_table
from readtell.swapping import swapped
from readtell.thingnumbers import ThingNumbers

# No count has more than two figures.
_MOST_COUNTED = 99


def is_worth(book, name, thing):
    """Whether this, of any kind, is a worth of the form of this name."""
    table = form_table(book)
    if name not in table or not is_thing(thing):
        return False
    return WorthAsker(table).holds(("named", name), thing)


class WorthAsker:
    """Whether things are worths of forms, asked of one table of forms by their names."""

    def __init__(self, table):
        self.table = table
        self.numbers = ThingNumbers()
        # By name and thing: True where it is a worth, False while that is asked (or is not so).
        self.asked = {}

    def holds(self, form, thing):
        """Whether this thing is a worth of this form."""
        todo = [(form, thing)]
        while todo:
            form, thing = todo.pop()
            if form is None:
                self.asked[thing] = True
                continue
            if form[0] == "named":
                needs = self.needs_named(form[1], thing)
            else:
                needed = _NEEDS[form[0]]
                needs = needed(form, thing)
            if needs is None:
                return False
            todo.extend(needs)
        return True

    def needs_named(self, name, thing):
        """As the functions below; None, too, where it hangs on itself."""
        key = (name, self.numbers.number(thing))
        if key in self.asked:
            return [] if self.asked[key] else None
        self.asked[key] = False
        # The first of these two is come to when all that hangs on the other one is done.
        return [(None, key), (self.table[name], thing)]


# Each of these tells the pairs of a form and a thing that must be worths for this thing to be one
# of this form, or None where it is none whatever they are.


def _needs_bare(_, thing):
    return [] if thing == () else None


def _needs_sign(form, thing):
    return [] if isinstance(thing, str) and len(thing) == 1 and thing in form[1] else None


def _needs_word(form, thing):
    if not isinstance(thing, str) or thing == "":
        return None
    return [] if all(sign in form[1] for sign in thing) else None


def _needs_number(_, thing):
    return [] if isinstance(thing, int) else None


def _needs_pick(form, thing):
    return [] if any(thing == other for _, other in form[1]) else None


def _needs_spelt(form, thing):
    if not isinstance(thing, str):
        return None
    return [(form[1], sign) for sign in thing]


def _needs_row(form, thing):
    inner = [part for part in form[1] if part[0] not in BARE]
    if not isinstance(thing, tuple) or len(thing) != len(inner):
        return None
    return list(zip(inner, thing))


def _needs_either(form, thing):
    if not isinstance(thing, tuple) or not thing:
        return None
    for name, inner in form[1]:
        if name == thing[0]:
            if inner[0] in BARE:
                return [] if len(thing) == 1 else None
            return [(inner, thing[1])] if len(thing) == 2 else None
    return None


def _needs_again(form, thing):
    if not isinstance(thing, tuple):
        return None
    return [(form[1], part) for part in thing]


def _needs_counted(form, thing):
    if not isinstance(thing, tuple) or len(thing) > _MOST_COUNTED:
        return None
    return [(form[2], part) for part in thing]


def _needs_turned(form, thing):
    return [(form[1], swapped(form[2], thing))]


_NEEDS = {
    "text": _needs_bare, "skip": _needs_bare, "sign": _needs_sign, "word": _needs_word,
    "number": _needs_number, "pick": _needs_pick, "spelt": _needs_spelt, "row": _needs_row,
    "either": _needs_either, "again": _needs_again, "counted": _needs_counted,
    "turned": _needs_turned,
}
