"""Pairing: which of the items of a changed worth stand for which of those that it was changed from."""

from readtell.forms import same_thing


def partners_of(before, after):
    """The list of the numbers of the items before for which those after stand, None for one that has no partner."""
    short = min(len(before), len(after))
    ahead = _many_same(before, after, short)
    behind = _many_same(before[::-1], after[::-1], short - ahead)
    # What is the same from the beginning on, and what stands between, is paired one by one from the
    # first on; so, of as many items as before, are all.
    partners = [None] * len(after)
    for at in range(short - behind):
        partners[at] = at
    for at in range(1, behind + 1):
        partners[-at] = len(before) - at
    return partners


def _many_same(before, after, most):
    """How many of these are the same from the beginning on, as far as the most."""
    many = 0
    while many < most and same_thing(before[many], after[many]):
        many += 1
    return many
