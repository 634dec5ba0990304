"""The parts of a text: what each form tells of it."""


class Part:
    """What one form tells of a text: from where to where, the worth, and the parts that the forms in it tell of."""

    def __init__(self, form, start, end, worth, parts):
        self.form = form
        self.start = start
        self.end = end
        self.worth = worth
        self.parts = parts


def has_between(form):
    """Whether something stands between the items that this form tells of."""
    return form[0] == "again" and form[2] is not None


def items_of(part):
    """The list of the items of a part that again or counted tells of."""
    return part.parts[::2] if has_between(part.form) else part.parts


def between_ahead_of(part, number):
    """What stands ahead of the item of this number, not the first one, in a part of again with something between."""
    return part.parts[2 * number - 1]
