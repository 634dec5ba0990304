"""The looker: whether the next sign always tells the way, and what shows it where it doesn't."""

from readtell.beginnings import Beginnings
from readtell.drafts import drafted
from readtell.followers import signs_behind, steps_from
from readtell.leasts import endless
from readtell.nodes import Nodes


def verdict(book):
    """("let",), or ("endless", name), or ("apart", one, other), each a text with its way."""
    stuck = endless(book)
    if stuck:
        return ("endless", stuck[0])
    nodes = Nodes(book)
    looker = Looker(Beginnings(nodes.arms), nodes.roots[book[0]])
    for node in looker.steps:
        clash = looker.clash_at(node)
        if clash is not None:
            one, other = clash
            return ("apart", one, other)
    return ("let",)


class Looker:
    """Looks at the decisions of a book in which no name met is endless.

    Where two arms of a decision may go on by the same sign somewhere, they may do so at a walk
    that leads there: so it is enough to know which signs may stand behind a node anywhere.
    """

    def __init__(self, beginnings, start):
        self.beginnings = beginnings
        self.arms = beginnings.arms
        self.start = start
        self.steps = steps_from(self.arms, start)
        self.behind = signs_behind(beginnings)

    def clash_at(self, node):
        """Two texts with ways that go apart at this node, None where there are none."""
        begun = {}
        empty = None
        for arm, (choice, parts) in enumerate(self.arms[node]):
            if choice is None:
                return None
            for sign, _ in self.beginnings.begin(parts):
                if begun.get(sign, arm) != arm:
                    return self.drafts(node, self.path_to(node), (begun[sign], sign), (arm, sign))
                begun[sign] = arm
            if self.beginnings.may_all_be_empty(parts):
                if empty is not None:
                    return self.drafts(node, self.path_to(node), (empty, None), (arm, None))
                empty = arm
        if empty is None:
            return None
        for sign in self.behind[node]:
            if begun.get(sign, empty) != empty:
                return self.drafts(node, self.path_before(node, sign), (empty, None), (begun[sign], sign))
        return None

    def drafts(self, node, path, one, other):
        """Two texts with their ways, by the path to the node, then by (arm, sign): the arm begins with the sign.

        Where the sign is None, the arm is told by shortest texts.
        """
        plan = []
        for (_, arm, at), wishes in path:
            plan.append((arm, {**wishes, at: len(plan) + 1}))
        found = []
        for arm, sign in (one, other):
            wishes = self.wishes_to_begin(self.arms[node][arm][1], sign)
            found.append(drafted(self.beginnings, self.start, plan + [(arm, wishes)]))
        return found

    def wishes_to_begin(self, parts, wanted):
        """The wishes by which these parts begin with this sign, if it isn't None."""
        for sign, at in self.beginnings.begin(parts):
            if sign == wanted:
                return {at: sign}
        return {}

    def path_to(self, node):
        """The list of (step, wishes) from the start to the node; the wishes are of later parts in the arm."""
        path = []
        while self.steps[node] is not None:
            path.append((self.steps[node], {}))
            node = self.steps[node][0]
        return path[::-1]

    def path_before(self, node, sign):
        """As path_to, so that by the wishes this sign stands behind the node if that is empty."""
        path = []
        by = None
        while by is None:
            step, by = self.behind[node][sign]
            path.append((step, {} if by is None else {by: sign}))
            node = step[0]
        return self.path_to(node) + path[::-1]
