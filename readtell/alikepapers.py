"""Papers for two books: what shows that they have the same texts."""

from readtell.books import names_met
from readtell.items import goes_nowhere, is_item, names_among
from readtell.papers import Paper
from readtell.restnumbers import EMPTY
from readtell.restpairs import RestPairs


def shows_alike(one, other, thing):
    """Whether this, of any kind, is a paper for the two books."""
    if not isinstance(thing, tuple) or not all(isinstance(pair, tuple) and len(pair) == 2 for pair in thing):
        return False
    pairs = RestPairs(one, other)
    mine = _numbered(pairs.one, names_met(one), [pair[0] for pair in thing])
    yours = _numbered(pairs.other, names_met(other), [pair[1] for pair in thing])
    if mine is None or yours is None:
        return False
    return _is_paper(pairs, list(zip(mine, yours)))


def _numbered(rests, names, sides):
    """The list of the numbers of these, of any kind, as rests; None where one of them is none."""
    found = []
    for side in sides:
        if not isinstance(side, tuple) or not all(is_item(x) and names_among(x, names) for x in side):
            return None
        found.append(rests.ahead(rests.numbered(side), EMPTY))
    items = list(rests.item_of.values())
    return None if any(goes_nowhere(rests.openings, item) for item in items) else found


def _is_paper(pairs, found):
    """Whether these pairs are a paper."""
    if pairs.begun not in found or not all(pairs.look_alike(pair) for pair in found):
        return False
    paper = Paper()
    for pair in found:
        paper.take(pairs.numbers_in(pair))
    asked = {}
    for pair in found:
        for _, coming in pairs.pairs_behind(pair):
            if coming not in asked:
                asked[coming] = paper.cuts(pairs.numbers_in(coming))
            if not asked[coming]:
                return False
    return True
