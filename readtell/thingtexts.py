"""Things written as texts."""

from readtell.reading import read
from readtell.rows import form_table
from readtell.tellers import Teller
from readtell.thingbook import thing_of_worth, thing_rows, worth_of_thing


def show_thing(thing):
    """The text of a thing."""
    teller = Teller(form_table(_thing_book()))
    return teller.tells(("named", "thing"), worth_of_thing(thing))


def read_thing(text):
    """The thing that is so written; refused with Fails where none is."""
    return thing_of_worth(read(_thing_book(), text))


def _thing_book():
    """The book of all texts of things."""
    return ("thing", thing_rows())
