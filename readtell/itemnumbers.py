"""Numbers for forms and other items of rests: the same item has the same number, an unlike one another."""

from readtell.thingnumbers import ThingNumbers

# The words of the items that no other items stand in; these may be keys themselves.
_ALONE = ("text", "sign", "word", "number", "pick", "left", "named")


class ItemNumbers:
    """Numbers given to items as they are met."""

    def __init__(self):
        self.known = {}
        self.things = ThingNumbers()

    def number(self, item):
        """The number of this item."""
        return self.known.setdefault(self.keyed(item), len(self.known))

    def keyed(self, item):
        """What is the same for the same items: for items in this one their numbers stand."""
        word = item[0]
        if word in _ALONE:
            return item
        if word == "row":
            return (word,) + tuple([self.number(inner) for inner in item[1]])
        if word == "either":
            return (word,) + tuple([(name, self.number(inner)) for name, inner in item[1]])
        if word == "again":
            return (word, self.number(item[1]), None if item[2] is None else self.number(item[2]))
        if word == "counted":
            return (word, item[1], self.number(item[2]))
        if word == "due":
            return (word, item[1], item[2], self.number(item[3]))
        if word == "turned":
            return (word, self.number(item[1]), self.things.number(item[2]))
        return (word, self.number(item[1]))
