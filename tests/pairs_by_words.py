"""Pairs of rests of two books told once more: papers as the document's words have them, and what parts the books."""

from readtell.errors import Fails, NoText
from readtell.forms import inner_forms
from readtell.numbering import text_at
from readtell.reading import read
from tests.words import all_begin, may_be_empty, rest_behind

NOTHING = ((), ())


class Pairs:
    def __init__(self, one, other):
        self.tables = (dict(one[1]), dict(other[1]))
        self.begun = ((("named", one[0]),), (("named", other[0]),))

    def ends(self, pair):
        return [all(may_be_empty(table, item) for item in rest) for table, rest in zip(self.tables, pair)]

    def wants(self, pair):
        return [all_begin(table, rest) for table, rest in zip(self.tables, pair)]

    def behind(self, pair, sign):
        return tuple(rest_behind(table, rest, sign) for table, rest in zip(self.tables, pair))

    def both_behind(self, pair):
        mine, yours = self.wants(pair)
        return [self.behind(pair, sign) for sign in sorted(mine & yours)]


def is_paper(one, other, paper):
    """Whether a tuple of pairs of rests, which are such, is a paper."""
    pairs = Pairs(one, other)
    if pairs.begun not in paper:
        return False
    for pair in paper:
        if len(set(pairs.ends(pair))) == 2 or pairs.wants(pair)[0] != pairs.wants(pair)[1]:
            return False
        if not all(can_be_cut(coming, paper) for coming in pairs.both_behind(pair)):
            return False
    return True


def can_be_cut(pair, paper):
    asked = set()

    def is_cut(mine, yours):
        if not mine and not yours:
            return True
        if (len(mine), len(yours)) in asked:
            return False
        asked.add((len(mine), len(yours)))
        return any(
            (one or other) and mine[:len(one)] == one and yours[:len(other)] == other
            and is_cut(mine[len(one):], yours[len(other):]) for one, other in paper)

    return is_cut(*pair)


def many_begun(one, other, signs, most):
    """How many unlike pairs of rests come of both by like beginnings of fewer signs (None: of any), but if beyond most."""
    pairs = Pairs(one, other)
    met = set()
    now = {pairs.begun}
    at = 0
    while now and len(met) <= most and (signs is None or at < signs):
        met |= now
        now = {coming for pair in now for coming in pairs.both_behind(pair)} - met
        at += 1
    return len(met)


def texts_up_to(asked, signs, many=4000):
    """The book's texts of at most so many signs, in order; None where there are too many."""
    found = []
    while len(found) < many:
        try:
            found.append(text_at(asked, len(found), signs))
        except NoText:
            return found
    return None


def reads(asked, told):
    try:
        read(asked, told)
    except Fails:
        return False
    return True


def least_parting(one, other, signs):
    """The least text of so many signs that just one of the books has, None where there is none; "?" if it takes long."""
    mine, yours = texts_up_to(one, signs), texts_up_to(other, signs)
    if mine is None or yours is None:
        return "?"
    alone = [told for told in mine if not reads(other, told)] + [told for told in yours if not reads(one, told)]
    return min(alone, key=lambda told: (len(told), told)) if alone else None


def items_met(asked, most):
    """The set of the items that stand in the book's rests; None where these are more than the most."""
    table = dict(asked[1])
    found = set()
    todo = [("named", asked[0])]
    while todo and len(found) <= most:
        item = todo.pop()
        if item not in found:
            found.add(item)
            for sign in all_begin(table, (item,)):
                todo.extend(rest_behind(table, (item,), sign))
    return None if len(found) > most else found


def places_in(form):
    """The paths to the forms within a form."""
    found = [()]
    for at, inner in enumerate(inner_forms(form)):
        found.extend((at,) + path for path in places_in(inner))
    return found


def with_names(asked, names):
    """The book with other names, by a dict."""
    return (names[asked[0]], tuple(sorted((names[name], other_names(form, names)) for name, form in asked[1])))


def other_names(form, names):
    word = form[0]
    if word == "named":
        return (word, names[form[1]])
    if word == "row":
        return (word, tuple(other_names(inner, names) for inner in form[1]))
    if word == "either":
        return (word, tuple((choice, other_names(inner, names)) for choice, inner in form[1]))
    if word == "again":
        return (word, other_names(form[1], names), form[2] and other_names(form[2], names))
    if word == "counted":
        return (word, form[1], other_names(form[2], names))
    if word == "turned":
        return (word, other_names(form[1], names), form[2])
    if word == "skip":
        return (word, other_names(form[1], names))
    return form
