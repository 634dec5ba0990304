"""Papers: pairs of rests, and whether other pairs can be cut into them."""


class Paper:
    """Pairs of rests, each rest a tuple of the numbers of its items."""

    def __init__(self):
        self.pairs = {}
        # By the first items of two rests, None where one has none: how long pairs are that begin so.
        self.sizes = {}

    def take(self, pair):
        """Puts a pair on the paper."""
        self.pairs[pair] = True
        sizes = self.sizes.setdefault(_heads(pair, (0, 0)), {})
        sizes[(len(pair[0]), len(pair[1]))] = True

    def cuts(self, pair):
        """Whether the two rests can be cut into equally many pieces, one by one a pair of this paper."""
        whole = (len(pair[0]), len(pair[1]))
        reached = {(0, 0): True}
        todo = [(0, 0)]
        while todo:
            start = todo.pop()
            if start == whole:
                return True
            for end in self.ends_of_pieces(pair, start):
                if end not in reached:
                    reached[end] = True
                    todo.append(end)
        return False

    def ends_of_pieces(self, pair, start):
        """The list of the places in the two rests at which pieces end that begin at these places."""
        found = []
        mine, yours = _heads(pair, start)
        for heads in ((mine, yours), (mine, None), (None, yours)):
            for size in self.sizes.get(heads, {}):
                end = (start[0] + size[0], start[1] + size[1])
                if end[0] <= len(pair[0]) and end[1] <= len(pair[1]) and _piece(pair, start, end) in self.pairs:
                    found.append(end)
        return found


def _heads(pair, start):
    """The items of the two rests at these places, None behind the last one."""
    one, other = pair
    return (one[start[0]] if start[0] < len(one) else None, other[start[1]] if start[1] < len(other) else None)


def _piece(pair, start, end):
    return (pair[0][start[0]:end[0]], pair[1][start[1]:end[1]])
