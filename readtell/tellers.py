"""Telling worths of forms: the least text that reads to each."""

from readtell.forms import BARE
from readtell.leasts import least_of, least_texts
from readtell.signs import figures_of
from readtell.swapping import swapped


class Teller:
    """Tells worths of forms, by a table of forms by their names."""

    def __init__(self, table):
        self.table = table
        self.leasts = least_texts(table)

    def tells(self, form, worth):
        """The least text of this form that reads to this worth of it."""
        found = []
        todo = [(form, worth)]
        while todo:
            piece = todo.pop()
            if isinstance(piece, tuple):
                form, worth = piece
                todo.extend(self.pieces(form, worth)[::-1])
            else:
                found.append(piece)
        return "".join(found)

    def pieces(self, form, worth):
        """The list of what tells this worth, in order: texts, and pairs of a form in this one and its worth."""
        word = form[0]
        if word in BARE:
            return [least_of(form, self.leasts)]
        if word == "number":
            return [figures_of(worth)]
        if word == "pick":
            return [text for text, thing in form[1] if thing == worth]
        if word == "spelt":
            return [(form[1], sign) for sign in worth]
        if word == "row":
            return list(zip(form[1], worths_in_row(form, worth)))
        if word == "either":
            return _chosen_pieces(form, worth)
        if word == "again":
            return _again_pieces(form, worth)
        if word == "counted":
            return [count_told(form, len(worth))] + [(form[2], part) for part in worth]
        if word == "turned":
            return [(form[1], swapped(form[2], worth))]
        if word == "named":
            return [(self.table[form[1]], worth)]
        return [worth]


def worths_in_row(form, worth):
    """The list of the worths of the forms in a row, of the bare ones, too, by the row's worth."""
    found = []
    many = 0
    for inner in form[1]:
        if inner[0] in BARE:
            found.append(())
        else:
            found.append(worth[many])
            many += 1
    return found


def count_told(form, many):
    """What stands ahead of so many items of a counted form."""
    return figures_of(many) + form[1]


def _chosen_pieces(form, worth):
    inner = [chosen for name, chosen in form[1] if name == worth[0]]
    return [(inner[0], worth[1] if len(worth) > 1 else ())]


def _again_pieces(form, worth):
    found = []
    for part in worth:
        if found and form[2] is not None:
            found.append((form[2], ()))
        found.append((form[1], part))
    return found
