"""The forms of a book as nodes with arms, which tell what can begin with what, and what stands behind.

An arm is (choice, parts): the choice by which a walk goes into it, or None where no decision leads
there (what stands in the text does); the parts, one behind another, are told texts and nodes, by
their numbers. A node's arms tell of the texts of its form. But for this: of a count only so many
arms are told as show all that may begin it, and all that may stand behind anything in it.
"""

from readtell.books import names_met
from readtell.folding import folded
from readtell.forms import inner_forms
from readtell.rows import form_table
from readtell.signs import FIGURES


class Nodes:
    """The arms of each node, and the nodes of the names met."""

    def __init__(self, book):
        self.arms = []
        self.roots = {}
        table = form_table(book)
        names = names_met(book)
        for name in names:
            self.roots[name] = self.made([])
        for name in names:
            self.arms[self.roots[name]] = [(None, (_part_of(self, table[name]),))]

    def made(self, arms):
        """A node that is made of these arms."""
        self.arms.append(arms)
        return len(self.arms) - 1

    def one_of(self, signs):
        """A node for one of these signs."""
        return self.made([(None, (sign,)) for sign in signs])

    def loop(self, parts):
        """A node for these parts again and again, by a decision each."""
        node = self.made([])
        self.arms[node] = [(0, ()), (1, parts + (node,))]
        return node


def _part_of(nodes, form):
    """The part of an arm that stands for this form."""
    return folded(form, inner_forms, lambda inner, parts: _told_part(nodes, inner, parts))


def _told_part(nodes, form, parts):
    """The part that stands for a form, by the list of those for the forms right within it."""
    told = _PARTS[form[0]]
    return told(nodes, form, parts)


# Each of these tells the part for a form of one word.


def _text_part(nodes, form, parts):
    return form[1]


def _inner_part(nodes, form, parts):
    return parts[0]


def _sign_part(nodes, form, parts):
    return nodes.one_of(form[1])


def _word_part(nodes, form, parts):
    one = nodes.one_of(form[1])
    return nodes.made([(None, (one, nodes.loop((one,))))])


def _number_part(nodes, form, parts):
    more = nodes.loop((nodes.one_of(FIGURES),))
    return nodes.made([(None, ("0",)), (None, (nodes.one_of(FIGURES[1:]), more))])


def _pick_part(nodes, form, parts):
    return nodes.made([(None, (text,)) for text, _ in form[1]])


def _spelt_part(nodes, form, parts):
    return nodes.loop((parts[0],))


def _row_part(nodes, form, parts):
    return nodes.made([(None, tuple(parts))])


def _either_part(nodes, form, parts):
    return nodes.made([(choice, (part,)) for choice, part in enumerate(parts)])


def _again_part(nodes, form, parts):
    item = parts[0]
    if form[2] is None:
        return nodes.loop((item,))
    return nodes.made([(0, ()), (1, (item, nodes.loop((parts[1], item))))])


def _counted_part(nodes, form, parts):
    arms = [(None, ("0", form[1]))]
    for figure in FIGURES[1:]:
        arms.append((None, (figure, _behind_figure(nodes, figure, form[1], parts[0]))))
    return nodes.made(arms)


def _behind_figure(nodes, figure, text, item):
    """A node for what stands behind the first figure of a count.

    A second figure matters just where the text behind the count begins with a figure, too.
    """
    arms = [(0, (text,) + (item,) * int(figure))]
    if figure == "1" and text[0] in FIGURES:
        arms.append((1, (text[0], text) + (item,) * int(figure + text[0])))
    return nodes.made(arms)


def _named_part(nodes, form, parts):
    return nodes.roots[form[1]]


_PARTS = {
    "text": _text_part, "skip": _inner_part, "sign": _sign_part, "word": _word_part,
    "number": _number_part, "pick": _pick_part, "spelt": _spelt_part, "row": _row_part,
    "either": _either_part, "again": _again_part, "counted": _counted_part,
    "turned": _inner_part, "named": _named_part,
}
