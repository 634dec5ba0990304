"""Rests by numbers: of one book, the same rest has the same number."""

from readtell.itemnumbers import ItemNumbers
from readtell.openings import Openings
from readtell.rows import form_table
from readtell.steps import behind_item

# The number of the rest without items.
EMPTY = 0


class Rests:
    """The rests of a book as they are met: each but the empty one is an item ahead of another rest.

    Items have numbers, too. What is told of an item is found once.
    """

    def __init__(self, book):
        self.openings = Openings(form_table(book))
        # By the number of a rest: the number of its first item, and of the rest behind that.
        self.heads = [None]
        self.tails = [EMPTY]
        self.known = {}
        self.known_wants = {}
        # By the number of an item.
        self.numbers = ItemNumbers()
        self.item_of = {}
        self.signs = {}
        self.empty = {}
        self.behind = {}
        self.begun = self.ahead(self.numbered([("named", book[0])]), EMPTY)

    def numbered(self, items):
        """The list of the numbers of these items."""
        found = []
        last = None
        for item in items:
            # A count has one item very many times.
            if item != last:
                number = self.numbers.number(item)
                last = item
            if number not in self.item_of:
                self.item_of[number] = item
                self.signs[number] = self.openings.signs_of([item])
                self.empty[number] = self.openings.may_be_empty(item)
            found.append(number)
        return found

    def ahead(self, numbers, rest):
        """The rest in which these items, by their numbers, stand ahead of another rest."""
        for head in reversed(numbers):
            key = (head, rest)
            if key not in self.known:
                self.known[key] = len(self.heads)
                self.heads.append(head)
                self.tails.append(rest)
            rest = self.known[key]
        return rest

    def numbers_in(self, rest):
        """The list of the numbers of the rest's items."""
        found = []
        while rest != EMPTY:
            found.append(self.heads[rest])
            rest = self.tails[rest]
        return found

    def listed(self, rest):
        """The list of the items of the rest."""
        return [self.item_of[number] for number in self.numbers_in(rest)]

    def may_end(self, rest):
        """Whether all items of the rest may be empty."""
        while rest != EMPTY and self.empty[self.heads[rest]]:
            rest = self.tails[rest]
        return rest == EMPTY

    def wanted(self, rest):
        """The rising text of the signs with which the rest can begin."""
        if rest not in self.known_wants:
            self.known_wants[rest] = "".join(sorted(set("".join(self.signs_ahead(rest)))))
        return self.known_wants[rest]

    def signs_ahead(self, rest):
        """The list of the signs of each of the rest's items with which it can begin."""
        found = []
        while rest != EMPTY:
            found.append(self.signs[self.heads[rest]])
            if not self.empty[self.heads[rest]]:
                break
            rest = self.tails[rest]
        return found

    def step(self, rest, sign):
        """The rest behind the sign, None where the rest can't begin so."""
        while rest != EMPTY:
            head = self.heads[rest]
            if sign in self.signs[head]:
                return self.ahead(self.item_behind(head, sign), self.tails[rest])
            if not self.empty[head]:
                return None
            rest = self.tails[rest]
        return None

    def item_behind(self, number, sign):
        """The list of the numbers of the items that may still come of this one behind the sign."""
        key = (number, sign)
        if key not in self.behind:
            items = behind_item(self.openings, self.item_of[number], sign)
            self.behind[key] = self.numbered(items)
        return self.behind[key]
