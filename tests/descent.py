"""Spans and put told once more, by going down into each form, for texts of let books.

What a form tells of a text is (form, start, end, worth, what the forms in it tell, in order).
"""

from readtell.telling import tell
from tests.brute import bare
from tests.words import FIGURES, begins, may_be_empty


class Descent:
    def __init__(self, asked, text):
        self.table = dict(asked[1])
        self.text = text
        self.place = 0
        self.whole = self.of(("named", asked[0]))

    def of(self, form):
        start = self.place
        worth, inner = getattr(self, "of_" + form[0])(form)
        return (form, start, self.place, worth, inner)

    def begun(self, form):
        return self.text[self.place:self.place + 1] in begins(self.table, form)

    def take(self, many):
        self.place += many
        return self.text[self.place - many:self.place]

    def run(self, signs):
        start = self.place
        while self.text[self.place:self.place + 1] in set(signs):
            self.place += 1
        return self.text[start:self.place]

    def figures(self):
        return int(self.take(1) if self.text.startswith("0", self.place) else self.run(FIGURES))

    def of_text(self, form):
        assert self.take(len(form[1])) == form[1]
        return (), []

    def of_skip(self, form):
        return (), [self.of(form[1])]

    def of_sign(self, _):
        return self.take(1), []

    def of_word(self, form):
        return self.run(form[1]), []

    def of_number(self, _):
        return self.figures(), []

    def of_pick(self, form):
        text, thing = [pair for pair in form[1] if self.text.startswith(pair[0], self.place)][0]
        self.take(len(text))
        return thing, []

    def of_spelt(self, form):
        inner = []
        while self.begun(form[1]):
            inner.append(self.of(form[1]))
        return "".join(one[3] for one in inner), inner

    def of_row(self, form):
        inner = [self.of(one) for one in form[1]]
        return tuple(one[3] for one in inner if not bare(one[0])), inner

    def of_either(self, form):
        chosen = [pair for pair in form[1] if self.begun(pair[1])]
        name, inner = (chosen or [pair for pair in form[1] if may_be_empty(self.table, pair[1])])[0]
        told = self.of(inner)
        return (name,) if bare(inner) else (name, told[3]), [told]

    def of_again(self, form):
        between = form[2] or ("row", ())
        inner = []
        while self.begun(("row", (between, form[1])) if inner else form[1]):
            if inner:
                inner.append(self.of(between))
            inner.append(self.of(form[1]))
        return tuple(one[3] for one in inner[::2]), inner

    def of_counted(self, form):
        many = self.figures()
        self.take(len(form[1]))
        inner = [self.of(form[2]) for _ in range(many)]
        return tuple(one[3] for one in inner), inner

    def of_turned(self, form):
        told = self.of(form[1])
        return turned(form, told[3]), [told]

    def of_named(self, form):
        told = self.of(self.table[form[1]])
        return told[3], [told]


def turned(form, worth):
    for one, other in form[2]:
        if worth in (one, other):
            return other if worth == one else one
    return worth


def spans_of(asked, text):
    found = {}
    note_spans(found, (), Descent(asked, text).whole)
    return found


def note_spans(found, path, told):
    form, start, end, _, inner = told
    if bare(form):
        return
    found[path] = (start, end)
    if form[0] == "named":
        note_spans(found, path, inner[0])
    elif form[0] == "either":
        note_spans(found, path + (1,), inner[0])
    elif form[0] in ("row", "again", "counted"):
        parts = [one for one in inner if not bare(one[0])] if form[0] == "row" else items(form, inner)
        for at, one in enumerate(parts):
            note_spans(found, path + (at,), one)


def items(form, inner):
    return inner[::2] if form[0] == "again" else inner


def put_by_words(asked, text, worth):
    return put_into(asked, text, Descent(asked, text).whole, worth)


def put_into(asked, text, told, worth):
    form, start, end, before, inner = told
    word = form[0]
    if before == worth:
        return text[start:end]
    if word == "row":
        parts = iter(worth)
        return "".join(put_into(asked, text, one, () if bare(one[0]) else next(parts)) for one in inner)
    if word == "either" and before[0] == worth[0]:
        return put_into(asked, text, inner[0], worth[1])
    if word == "again":
        return put_items(asked, text, told, form[1], worth)
    if word == "counted":
        return str(len(worth)) + form[1] + put_items(asked, text, told, form[2], worth)
    if word == "turned":
        return put_into(asked, text, inner[0], turned(form, worth))
    if word == "named":
        return put_into(asked, text, inner[0], worth)
    return told_fresh(asked, form, worth)


def put_items(asked, text, told, item, worth):
    form, inner = told[0], told[4]
    old = items(form, inner)
    partner = pairs([one[3] for one in old], list(worth))
    found = ""
    for at, part in enumerate(worth):
        if at > 0 and form[0] == "again" and form[2] is not None:
            if partner.get(at):
                _, start, end, _, _ = inner[2 * partner[at] - 1]
                found += text[start:end]
            else:
                found += told_fresh(asked, form[2], ())
        if at in partner:
            found += put_into(asked, text, old[partner[at]], part)
        else:
            found += told_fresh(asked, item, part)
    return found


def pairs(old, new):
    """A dict from the items that have a partner to it, by their numbers."""
    if len(old) == len(new):
        return {at: at for at in range(len(new))}
    mine, yours = list(range(len(old))), list(range(len(new)))
    found = {}
    while mine and yours and old[mine[0]] == new[yours[0]]:
        found[yours.pop(0)] = mine.pop(0)
    while mine and yours and old[mine[-1]] == new[yours[-1]]:
        found[yours.pop()] = mine.pop()
    found.update(zip(yours, mine))
    return found


def told_fresh(asked, form, worth):
    """What tell tells of the form, by a book that starts with it."""
    return tell(("zz", asked[1] + (("zz", ("row", (form,))),)), () if bare(form) else (worth,))
