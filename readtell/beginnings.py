"""What nodes begin with, and by which arms they end soonest.

Each answer is told with the arm that shows it. An arm found shows it by what was found before it
alone, so whoever goes on by arms found comes to an end.
"""


class Beginnings:
    """Of nodes by their arms, all of which have texts."""

    def __init__(self, arms):
        self.arms = arms
        # For each node: the length of its shortest text, and the arm that leads to it.
        self.shortest = [None for _ in arms]
        # For each node: from the signs that begin it to the arm, and the part in it, that does.
        self.firsts = [{} for _ in arms]
        while self.finds_more():
            pass

    def finds_more(self):
        """Looks at each arm once; whether something new was found."""
        more = False
        for node in reversed(range(len(self.arms))):
            for arm, (_, parts) in enumerate(self.arms[node]):
                if self.finds_shorter(node, arm, parts):
                    more = True
                if self.finds_firsts(node, arm, parts):
                    more = True
        return more

    def finds_shorter(self, node, arm, parts):
        """Whether this arm leads to a shorter text of the node than any found."""
        lengths = [self.length_of(part) for part in parts]
        if None in lengths:
            return False
        found = self.shortest[node]
        if found is not None and found[0] <= sum(lengths):
            return False
        self.shortest[node] = (sum(lengths), arm)
        return True

    def finds_firsts(self, node, arm, parts):
        """Whether a sign begins the node by this arm that wasn't found to."""
        found = self.firsts[node]
        many = len(found)
        for sign, at in self.begin(parts):
            if sign not in found:
                found[sign] = (arm, at)
        return len(found) > many

    def length_of(self, part):
        """The length of the shortest text found of a part, None where none was found."""
        if isinstance(part, str):
            return len(part)
        found = self.shortest[part]
        return None if found is None else found[0]

    def may_be_empty(self, part):
        """Whether it was found that a part may be empty."""
        return self.length_of(part) == 0

    def may_all_be_empty(self, parts):
        """Whether it was found that all of these parts may be empty."""
        return all(self.may_be_empty(part) for part in parts)

    def begin(self, parts):
        """The list of (sign, at): the signs found to begin these parts, and which part each stands in."""
        found = []
        for at, part in enumerate(parts):
            if isinstance(part, str):
                found.append((part[0], at))
            else:
                found.extend([(sign, at) for sign in self.firsts[part]])
            if not self.may_be_empty(part):
                break
        return found
