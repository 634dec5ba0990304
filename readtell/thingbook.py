"""The names and forms by which texts in quotes and things are written, and the worths that stand for them."""

from readtell.folding import folded

# The signs that stand for themselves in quotes.
_PLAIN = " !#$&'()*+,-./0123456789:;<=>?@ABCDEFGHIJKLMNOPQRSTUVWXYZ[]^_`abcdefghijklmnopqrstuvwxyz{|}~"

# What stands in quotes for the other ones.
_STROKES = (("\\\"", "\""), ("\\\\", "\\"), ("\\n", "\n"))


def thing_rows():
    """The rows of a book for texts in quotes and for things, which tell of no other names."""
    signs = tuple([(sign, sign) for sign in _PLAIN]) + _STROKES
    quote = ("row", (("text", "\""), ("spelt", ("pick", signs)), ("text", "\"")))
    tuples = ("row", (("text", "("), ("again", ("named", "thing"), ("text", ",")), ("text", ")")))
    thing = ("either", (("number", ("number",)), ("text", ("named", "quote")), ("tuple", tuples)))
    return (("quote", quote), ("thing", thing))


def worth_of_thing(thing):
    """The worth of the name thing that stands for this thing."""
    return folded(thing, _parts_of_thing, _told_worth)


def thing_of_worth(worth):
    """The thing for which a worth of the name thing stands."""
    return folded(worth, _parts_of_worth, _told_thing)


def _parts_of_thing(thing):
    return list(thing) if isinstance(thing, tuple) else []


def _told_worth(thing, inner):
    if isinstance(thing, tuple):
        return ("tuple", (tuple(inner),))
    return ("text", (thing,)) if isinstance(thing, str) else ("number", thing)


def _parts_of_worth(worth):
    return list(worth[1][0]) if worth[0] == "tuple" else []


def _told_thing(worth, inner):
    if worth[0] == "tuple":
        return tuple(inner)
    return worth[1][0] if worth[0] == "text" else worth[1]
