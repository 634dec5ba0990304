"""Where nodes stand: how one comes to each from the start, and which signs may stand behind it.

A step (node, arm, at) leads from a node by an arm of it to the node at that place in the arm.
"""


def steps_from(arms, start):
    """A dict from the nodes come to, the nearest first, to the last step there, None to the start."""
    steps = {start: None}
    todo = [start]
    while todo:
        coming = []
        for node in todo:
            for part, step in _steps_of(arms, node):
                if part not in steps:
                    steps[part] = step
                    coming.append(part)
        todo = coming
    return steps


def signs_behind(beginnings):
    """For each node a dict from the signs that may stand behind it to (step, by).

    The step leads to the node. By is the place in that arm of the later part that begins with the
    sign, or None where the sign stands behind the node from which the step leads.
    """
    arms = beginnings.arms
    behind = [{} for _ in arms]
    again = True
    while again:
        again = False
        for node in range(len(arms)):
            for arm in range(len(arms[node])):
                if _finds_behind(beginnings, behind, node, arm):
                    again = True
    return behind


def _steps_of(arms, node):
    """The list of (node, step) to which steps lead from this node."""
    found = []
    for arm, (_, parts) in enumerate(arms[node]):
        found.extend([(part, (node, arm, at)) for at, part in enumerate(parts) if not isinstance(part, str)])
    return found


def _finds_behind(beginnings, behind, node, arm):
    """Whether a sign was found behind a part of this arm that wasn't found there before."""
    parts = beginnings.arms[node][arm][1]
    coming = {sign: None for sign in behind[node]}
    more = False
    for at in reversed(range(len(parts))):
        part = parts[at]
        if not isinstance(part, str):
            found = behind[part]
            for sign in coming:
                if sign not in found:
                    found[sign] = ((node, arm, at), coming[sign])
                    more = True
        if not beginnings.may_be_empty(part):
            coming = {}
        for sign, _ in beginnings.begin((part,)):
            coming[sign] = at
    return more
