"""Numbers for forms and other items of rests: the same item has the same number, an unlike one another."""

from readtell.folding import folded
from readtell.items import inner_items
from readtell.thingnumbers import ThingNumbers

# The words of the items that no other items stand in; these may be keys themselves.
_ALONE = ("text", "sign", "word", "number", "pick", "left", "named")


class ItemNumbers:
    """Numbers given to items as they are met."""

    def __init__(self):
        self.known = {}
        self.things = ThingNumbers()

    def number(self, item):
        """The number of this item."""
        if item[0] in _ALONE:
            return self.told_number(item, [])
        return folded(item, inner_items, lambda part, inner: self.told_number(part, inner))

    def told_number(self, item, inner):
        """The number of this item, by the list of those of the items right within it."""
        return self.known.setdefault(self.keyed(item, inner), len(self.known))

    def keyed(self, item, inner):
        """What is the same for the same items: for items in this one their numbers stand."""
        word = item[0]
        if word in _ALONE:
            return item
        if word == "either":
            return (word,) + tuple([(pair[0], number) for pair, number in zip(item[1], inner)])
        if word == "again":
            return (word, inner[0], None if item[2] is None else inner[1])
        if word == "counted":
            return (word, item[1], inner[0])
        if word == "due":
            return (word, item[1], item[2], inner[0])
        if word == "turned":
            return (word, inner[0], self.things.number(item[2]))
        return (word,) + tuple(inner)
