"""Keeping as typed: a worth that was changed is put into the text that it was read from."""

from readtell.errors import NoWorth
from readtell.forms import same_thing
from readtell.pairing import partners_of
from readtell.parts import between_ahead_of, has_between, items_of
from readtell.reading import read
from readtell.rows import form_table
from readtell.swapping import swapped
from readtell.tellers import Teller, count_told, worths_in_row
from readtell.tracing import traced
from readtell.worths import is_worth


def put(book, text, worth):
    """The text, put anew so that it reads to this worth.

    Refused with Fails where the text isn't one of the book's, then with NoWorth, of any kind, where
    it is no worth of the start.
    """
    tracing = traced(book, text)
    if not is_worth(book, book[0], worth):
        raise NoWorth("no worth of the start of this book")
    return Keeper(form_table(book), text).tells(tracing.parts[0], worth)


def led(one, other, text, worth):
    """(The one's text, put anew, what the other reads it to); refused as put, and as read of the other."""
    told = put(one, text, worth)
    return (told, read(other, told))


class Keeper(Teller):
    """Tells worths by the parts of a text, as far as what was typed can stay, and else by forms."""

    def __init__(self, table, text):
        Teller.__init__(self, table)
        self.text = text

    def pieces(self, told, worth):
        """The list of what tells this worth by a part or by a form, in order: texts, and pairs of such and a worth."""
        if isinstance(told, tuple):
            return super().pieces(told, worth)
        form = told.form
        if same_thing(told.worth, worth):
            return [self.typed(told)]
        if form[0] == "row":
            return list(zip(told.parts, worths_in_row(form, worth)))
        if form[0] == "either" and told.worth[0] == worth[0]:
            return [(told.parts[0], worth[1])]
        if form[0] == "again":
            return self.item_pieces(told, form[1], worth)
        if form[0] == "counted":
            return [count_told(form, len(worth))] + self.item_pieces(told, form[2], worth)
        if form[0] == "turned":
            return [(told.parts[0], swapped(form[2], worth))]
        if form[0] == "named":
            return [(told.parts[0], worth)]
        return [(form, worth)]

    def typed(self, part):
        """The text of the part as it was typed."""
        return self.text[part.start:part.end]

    def item_pieces(self, part, form, worth):
        """The same, of the items of this form, and of what stands between them."""
        items = items_of(part)
        partners = partners_of([item.worth for item in items], worth)
        found = []
        for at, thing in enumerate(worth):
            partner = partners[at]
            if at > 0 and has_between(part.form):
                found.append(self.between(part, partner))
            found.append((form if partner is None else items[partner], thing))
        return found

    def between(self, part, partner):
        """What stands ahead of an item that isn't the first one, by the number of its partner."""
        if partner is None or partner == 0:
            return (part.form[2], ())
        return self.typed(between_ahead_of(part, partner))
