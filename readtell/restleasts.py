"""Least texts of the rests of a book."""

from readtell.leasts import least_of, least_texts


class RestLeasts:
    """The least texts of rests and of their items, by the numbers of these; each item is asked once."""

    def __init__(self, rests):
        self.rests = rests
        self.of_names = least_texts(rests.openings.table)
        self.of_items = {}

    def of_item(self, number):
        """The least text of an item."""
        if number not in self.of_items:
            self.of_items[number] = least_of(self.rests.item_of[number], self.of_names)
        return self.of_items[number]

    def of_rest(self, rest):
        """The least text of a rest: as no text is less than a part of it, that of its items' least ones."""
        return "".join([self.of_item(number) for number in self.rests.numbers_in(rest)])
