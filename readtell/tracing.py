"""Reading a text of a book: a walk on which the next sign tells each choice."""

from readtell.failing import check_reads
from readtell.forms import LENGTHS
from readtell.parts import Part
from readtell.restnumbers import Rests
from readtell.walking import Walk, walk_on


def traced(book, text):
    """The walk through a text, which is done; refused with Fails where the text isn't one of the book's."""
    rests = Rests(book)
    check_reads(rests, text)
    tracing = Tracing(rests.openings, text)
    tracing.walk_through(("named", book[0]))
    return tracing


class Tracing(Walk):
    """A walk through a text that can be read, which finds its way and notes what each form tells of.

    When all is done, one part is left, of the whole.
    """

    def __init__(self, openings, text):
        Walk.__init__(self, openings.table, text, [])
        self.openings = openings
        self.parts = []

    def choice(self, options):
        """The number of the option that the next sign tells; the way goes on by it."""
        chosen = self.told_option(options, self.text[self.place:self.place + 1])
        self.way.append((self.place, chosen))
        self.taken += 1
        return chosen

    def told_option(self, options, sign):
        """The number of the option that can begin with the sign, else of the one that may be empty."""
        if sign != "":
            for number, forms in enumerate(options):
                if self.openings.begin_with(forms, sign):
                    return number
        for number, forms in enumerate(options):
            if self.openings.may_all_be_empty(forms):
                return number
        return None

    def walk_through(self, form):
        """Walks through the form."""
        self.todo.append(form)
        while self.todo:
            item = self.todo.pop()
            if item[0] == "told of":
                self.end_part(item)
                continue
            if item[0] in LENGTHS:
                self.todo.append(("told of", item, self.place, len(self.parts)))
            walk_on(self, item)

    def end_part(self, item):
        """Notes the part of a form that is walked through."""
        _, form, start, many = item
        inner = self.parts[many:]
        del self.parts[many:]
        self.parts.append(Part(form, start, self.place, self.worths[-1], inner))
