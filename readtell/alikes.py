"""Alike names: those whose forms are the same but for names whose forms are alike in turn."""

from readtell.changing import renamed
from readtell.itemnumbers import ItemNumbers
from readtell.rows import form_table


def alike_names(book):
    """The rising tuple of the rising tuples of the names whose forms are alike, each name in one."""
    table = form_table(book)
    groups = [sorted(table)]
    many = 0
    # Names stay in a group until their forms turn out unlike: so rings of names that nothing parts are alike.
    while len(groups) > many:
        many = len(groups)
        groups = _parted(table, groups)
    return tuple([tuple(group) for group in groups])


def _parted(table, groups):
    """The list of the groups into which these fall where a name stands for each other one of its group."""
    stands = {name: group[0] for group in groups for name in group}
    numbers = ItemNumbers()
    found = {}
    for name in sorted(table):
        key = numbers.number(renamed(table[name], stands))
        found.setdefault(key, []).append(name)
    return list(found.values())
