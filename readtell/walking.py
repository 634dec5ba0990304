"""Walking through a form along a text, by a way that tells each choice."""

from readtell.forms import BARE, same_thing
from readtell.rows import form_table
from readtell.signs import FIGURES, is_int, number_of_figures
from readtell.swapping import swapped


def walked(book, text, way):
    """The worth that this, of any kind, as a way of the text comes to, None where it is no way of it."""
    if not isinstance(way, tuple):
        return None
    walk = Walk(form_table(book), text, way)
    walk.todo.append(("named", book[0]))
    while walk.todo:
        if not walk_on(walk, walk.todo.pop()):
            return None
    return walk.worths[0] if walk.place == len(text) and walk.taken == len(way) else None


def shows_read(book, text, way, worth):
    """Whether the third, of any kind, is a way of the text, to just the worth that the fourth, of any kind, is."""
    told = walked(book, text, way)
    return told is not None and same_thing(told, worth)


class Walk:
    """A walk: where it is, what is still to be done, and the worths come to that stand in no other yet.

    What is to be done are forms, and tuples that begin with other words and tell what becomes of
    worths come to.
    """

    def __init__(self, table, text, way):
        self.table = table
        self.text = text
        self.way = way
        self.place = 0
        self.taken = 0
        self.todo = []
        self.worths = []
        self.within = {}

    def told(self, signs):
        """Whether these signs stand here; they are taken then."""
        if not self.text.startswith(signs, self.place):
            return False
        self.place += len(signs)
        return True

    def one_of(self, signs):
        """The sign that stands here, taken, if it is one of these, else None."""
        if self.place >= len(self.text) or self.text[self.place] not in signs:
            return None
        self.place += 1
        return self.text[self.place - 1]

    def choice(self, options):
        """The number of the option that the way chooses here, None where it has no such choice here.

        Each option is a tuple of the forms to be walked through next if it is chosen.
        """
        if self.taken >= len(self.way):
            return None
        step = self.way[self.taken]
        if not isinstance(step, tuple) or len(step) != 2 or not is_int(step[0]) or not is_int(step[1]):
            return None
        if step[0] != self.place or not 0 <= step[1] < len(options):
            return None
        self.taken += 1
        return step[1]


def walk_on(walk, item):
    """Does one thing that is to be done, and tells whether it could."""
    step = _STEPS[item[0]]
    return step(walk, item)


# Each of these does one thing that is to be done, and tells whether it could. A form leaves one
# worth behind, a bare one ().


def _walk_text(walk, form):
    walk.worths.append(())
    return walk.told(form[1])


def _walk_skip(walk, form):
    walk.todo.extend([("skipped",), form[1]])
    return True


def _end_skipped(walk, _):
    walk.worths[-1] = ()
    return True


def _walk_sign(walk, form):
    sign = walk.one_of(form[1])
    if sign is None:
        return False
    walk.worths.append(sign)
    return True


def _walk_word(walk, form):
    word = _one_and_more(walk, form[1])
    if word is None:
        return False
    walk.worths.append(word)
    return True


def _walk_number(walk, _):
    figures = "0" if walk.told("0") else _one_and_more(walk, FIGURES)
    if figures is None:
        return False
    walk.worths.append(number_of_figures(figures))
    return True


def _one_and_more(walk, signs):
    """One of these signs, and as many more as the way chooses; None where they don't stand here."""
    found = []
    choice = 1
    while choice == 1:
        sign = walk.one_of(signs)
        if sign is None:
            return None
        found.append(sign)
        choice = walk.choice([(), (("sign", signs),)])
    return None if choice is None else "".join(found)


def _walk_pick(walk, form):
    for text, thing in form[1]:
        if walk.told(text):
            walk.worths.append(thing)
            return True
    return False


def _walk_spelt(walk, form):
    walk.todo.append(("spelling", form[1], 0))
    return True


def _more_spelt(walk, item):
    _, form, many = item
    choice = walk.choice([(), (form,)])
    if choice == 0:
        walk.worths.append("".join(_last_worths(walk, many)))
    elif choice == 1:
        walk.todo.extend([("spelling", form, many + 1), form])
    return choice is not None


def _walk_row(walk, form):
    walk.todo.append(("rowed", form))
    walk.todo.extend(form[1][::-1])
    return True


def _end_row(walk, item):
    inner = item[1][1]
    worths = _last_worths(walk, len(inner))
    walk.worths.append(tuple([worth for form, worth in zip(inner, worths) if form[0] not in BARE]))
    return True


def _walk_either(walk, form):
    choice = walk.choice([(inner,) for _, inner in form[1]])
    if choice is None:
        return False
    name, inner = form[1][choice]
    walk.todo.extend([("chosen", name, inner), inner])
    return True


def _end_either(walk, item):
    _, name, inner = item
    worth = walk.worths.pop()
    walk.worths.append((name,) if inner[0] in BARE else (name, worth))
    return True


def _walk_again(walk, form):
    walk.todo.append(("going on", form, 0))
    return True


def _more_again(walk, item):
    _, form, many = item
    inner, between = form[1], form[2]
    spaced = many > 0 and between is not None
    choice = walk.choice([(), (between, inner) if spaced else (inner,)])
    if choice == 0:
        walk.worths.append(tuple(_last_worths(walk, many)))
    elif choice == 1:
        walk.todo.extend([("going on", form, many + 1), inner])
        if spaced:
            walk.todo.extend([("between",), between])
    return choice is not None


def _end_between(walk, _):
    # What stands between two items is no part of the worth.
    walk.worths.pop()
    return True


def _walk_counted(walk, form):
    figures = walk.one_of(FIGURES)
    if figures is None:
        return False
    if figures != "0":
        choice = walk.choice([(), (("sign", FIGURES),)])
        if choice is None:
            return False
        more = "" if choice == 0 else walk.one_of(FIGURES)
        if more is None:
            return False
        figures = figures + more
    many = number_of_figures(figures)
    walk.todo.append(("counted out", many))
    walk.todo.extend([form[2]] * many)
    return walk.told(form[1])


def _end_counted(walk, item):
    walk.worths.append(tuple(_last_worths(walk, item[1])))
    return True


def _walk_turned(walk, form):
    walk.todo.extend([("turning", form[2]), form[1]])
    return True


def _end_turned(walk, item):
    walk.worths.append(swapped(item[1], walk.worths.pop()))
    return True


def _walk_named(walk, form):
    name = form[1]
    key = (name, walk.place, walk.taken)
    # Come to within itself, with no sign and no decision since, a name would be so for ever.
    if key in walk.within:
        return False
    walk.within[key] = True
    walk.todo.extend([("out of", key), walk.table[name]])
    return True


def _end_named(walk, item):
    del walk.within[item[1]]
    return True


def _last_worths(walk, many):
    """The list of so many worths come to last, which stand there no more."""
    worths = walk.worths
    start = len(worths) - many
    last = worths[start:]
    del worths[start:]
    return last


_STEPS = {
    "text": _walk_text, "skip": _walk_skip, "sign": _walk_sign, "word": _walk_word,
    "number": _walk_number, "pick": _walk_pick, "spelt": _walk_spelt, "row": _walk_row,
    "either": _walk_either, "again": _walk_again, "counted": _walk_counted,
    "turned": _walk_turned, "named": _walk_named,
    "skipped": _end_skipped, "spelling": _more_spelt, "rowed": _end_row, "chosen": _end_either,
    "going on": _more_again, "between": _end_between, "counted out": _end_counted,
    "turning": _end_turned, "out of": _end_named,
}
