"""The pairs of a turned form: of two in a pair each stands for the other one."""

from readtell.forms import same_thing


def swapped(pairs, thing):
    """What stands for this thing."""
    for one, other in pairs:
        if same_thing(one, thing):
            return other
        if same_thing(other, thing):
            return one
    return thing
