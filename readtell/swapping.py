"""The pairs of a turned form: of two in a pair each stands for the other one."""


def swapped(pairs, thing):
    """What stands for this thing."""
    for one, other in pairs:
        if thing == one:
            return other
        if thing == other:
            return one
    return thing
