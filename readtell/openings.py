"""What items of rests can begin with, and which of them may be empty.

An item is a form, ("left", texts), one of which is to stand there, or ("due", d, t, f): a counted
form behind the figure d.
"""

from readtell.forms import inner_forms
from readtell.signs import FIGURES


class Openings:
    """What items can begin with, by a table of forms, where no name leads to itself without a sign."""

    def __init__(self, table):
        self.table = table
        # For each name what was found of its form: whether it may be empty, and a rising text of signs.
        self.empty = {name: False for name in table}
        self.signs = {name: "" for name in table}
        while self.finds_more():
            pass

    def finds_more(self):
        """Asks the form of each name once; whether something new was found."""
        more = False
        for name in self.table:
            empty = self.may_be_empty(self.table[name])
            signs = self.signs_of([self.table[name]])
            if empty != self.empty[name] or signs != self.signs[name]:
                more = True
            self.empty[name] = empty
            self.signs[name] = signs
        return more

    def may_be_empty(self, item):
        """Whether the empty text is one of this item's."""
        # For each row and either that the item stands in: what would tell of all of it, and the forms not asked yet.
        around = []
        while True:
            word = item[0]
            if word in ("skip", "turned"):
                item = item[1]
                continue
            if word in ("row", "either"):
                around.append((word == "either", inner_forms(item)[::-1]))
                empty = word == "row"
            else:
                empty = self.empty[item[1]] if word == "named" else word in ("spelt", "again")
            while around and (around[-1][0] == empty or not around[-1][1]):
                around.pop()
            if not around:
                return empty
            item = around[-1][1].pop()

    def may_all_be_empty(self, items):
        """Whether the empty text is one of each item's."""
        return all(self.may_be_empty(item) for item in items)

    def signs_of(self, items):
        """The rising text of the signs with which these items, one behind another, can begin."""
        found = []
        todo = self.foremost(items)
        while todo:
            signs, inner = self.looked_into(todo.pop())
            found.append(signs)
            todo.extend(inner)
        return "".join(sorted(set("".join(found))))

    def begin_with(self, items, sign):
        """Whether these items, one behind another, can begin with this sign."""
        todo = self.foremost(items)
        while todo:
            signs, inner = self.looked_into(todo.pop())
            if sign in signs:
                return True
            todo.extend(inner)
        return False

    def foremost(self, items):
        """The list of those of these items, one behind another, with which they can begin."""
        found = []
        for item in items:
            found.append(item)
            if not self.may_be_empty(item):
                break
        return found

    def looked_into(self, item):
        """A text of signs with which an item begins, and a list of items with which it begins as well."""
        word = item[0]
        if word == "text":
            return item[1][0], []
        if word in ("sign", "word"):
            return item[1], []
        if word in ("number", "counted"):
            return FIGURES, []
        if word == "due":
            return FIGURES + item[2][0], []
        if word == "pick":
            return "".join([text[0] for text, _ in item[1]]), []
        if word == "left":
            return "".join([text[0] for text in item[1]]), []
        if word == "named":
            return self.signs[item[1]], []
        if word == "row":
            return "", self.foremost(item[1])
        if word == "either":
            return "", [inner for _, inner in item[1]]
        return "", [item[1]]
