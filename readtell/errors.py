"""The refusals: each is a class straight under FormError."""


class FormError(ValueError):
    """What every refusal is."""


class NoWorth(FormError):
    """What was handed in is no worth of the book."""


class NoText(FormError):
    """The book has no such text."""


class NoBook(FormError):
    """What is so written makes no form or no book."""


class NotLet(FormError):
    """The book isn't let."""


class NoLine(FormError):
    """A desk was told what it doesn't know."""


class NoKept(FormError):
    """A desk keeps no text yet."""


class Fails(FormError):
    """A text isn't one of the book's: where, and what could stand there."""

    def __init__(self, place, wants, end):
        FormError.__init__(self, f"reading fails at place {place}")
        self.place = place
        self.wants = wants
        self.end = end


class FailsWithin(FormError):
    """What the one book reads the other one can't: where without, and where and how within."""

    def __init__(self, place, inner, wants, end):
        FormError.__init__(self, f"reading fails at place {place}, within at place {inner}")
        self.place = place
        self.inner = inner
        self.wants = wants
        self.end = end
