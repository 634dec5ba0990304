"""How many texts rests have, by the lengths of these."""

from readtell.restnumbers import EMPTY


class Counts:
    """How many texts of up to so many signs each rest of a book has, each reckoned once.

    A rest's texts are those of its first item, each with each of the rest behind that. So what
    items have is reckoned first, length by length: an item's texts of one more sign are those of
    what may still come of it behind each sign.
    """

    def __init__(self, rests, most):
        self.rests = rests
        self.most = most
        behind = _rests_behind_items(rests)
        self.of_items = {item: [] for item in behind}
        # By the numbers of rests; rests met later are reckoned when they are asked for.
        self.of_rests = [[] for _ in rests.heads]
        for length in range(most + 1):
            self.reckon(behind, length)

    def reckon(self, behind, length):
        """What all items and rests known have of this length, when it is known of all lesser ones."""
        for item in behind:
            if length == 0:
                many = 1 if self.rests.empty[item] else 0
            else:
                many = sum([self.of_rests[rest][length - 1] for rest in behind[item]])
            self.of_items[item].append(many)
        for rest in range(len(self.of_rests)):
            self.of_rests[rest].append(self.reckoned(rest, length))

    def reckoned(self, rest, length):
        """How many texts of this length a rest has, by what its first item has, and the rest behind that."""
        if rest == EMPTY:
            return 1 if length == 0 else 0
        first = self.of_items[self.rests.heads[rest]]
        later = self.of_rests[self.rests.tails[rest]]
        return sum([first[at] * later[length - at] for at in range(length + 1)])

    def of_rest(self, rest):
        """The list of how many texts of each length a rest has, from no sign to the most."""
        for coming in range(len(self.of_rests), rest + 1):
            self.of_rests.append([self.reckoned(coming, length) for length in range(self.most + 1)])
        return self.of_rests[rest]


def _rests_behind_items(rests):
    """A dict from all items that may come to be met to the list of the rests behind each, one for each sign."""
    behind = {}
    todo = [rests.heads[rest] for rest in range(1, len(rests.heads))]
    while todo:
        item = todo.pop()
        if item not in behind:
            signs = rests.signs[item]
            found = [rests.item_behind(item, sign) for sign in signs]
            behind[item] = [rests.ahead(items, EMPTY) for items in found]
            for items in found:
                todo.extend(items)
    return behind
