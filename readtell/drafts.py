"""Texts with their ways, made by plans.

A plan tells, row by row from the start on, into which arm to go, and what is wished of parts of it
by their places: a sign to begin with, or the number of the row of the plan that tells more. Parts of
which nothing is wished are told by their shortest texts, so they are empty where they may be.
"""


def drafted(beginnings, start, plan):
    """The (text, way) that the plan, a list of (arm, wishes), leads to."""
    signs = []
    place = 0
    way = []
    todo = [(start, 0)]
    while todo:
        part, wish = todo.pop()
        if isinstance(part, str):
            signs.append(part)
            place += len(part)
            continue
        arm, wishes = plan[wish] if isinstance(wish, int) else _by_wish(beginnings, part, wish)
        choice, parts = beginnings.arms[part][arm]
        if choice is not None:
            way.append((place, choice))
        todo.extend([(parts[at], wishes.get(at)) for at in reversed(range(len(parts)))])
    return ("".join(signs), tuple(way))


def _by_wish(beginnings, node, wish):
    """The arm of a node, and the wishes of its parts, by the sign wished of it or by None."""
    if wish is None:
        return beginnings.shortest[node][1], {}
    arm, at = beginnings.firsts[node][wish]
    return arm, {at: wish}
