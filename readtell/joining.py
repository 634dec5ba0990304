"""Joining: one book spells the texts that another book reads."""

from readtell.errors import Fails, FailsWithin
from readtell.reading import read
from readtell.telling import tell
from readtell.tracing import traced


def read_joined(one, other, text):
    """What the other book reads the one's worth of the text to.

    Refused with Fails where the one can't read the text, then with FailsWithin where the other one
    can't read its worth.
    """
    tracing = traced(one, text)
    try:
        return read(other, tracing.worths[0])
    except Fails as failing:
        place = _place_in(tracing, failing.place)
        raise FailsWithin(place, failing.place, failing.wants, failing.end) from None


def tell_joined(one, other, worth):
    """What the one tells of what the other tells of the worth; refused with NoWorth where either has none."""
    return tell(one, tell(other, worth))


def _place_in(tracing, inner):
    """Where in the text that begins which stands for the sign at this place of its worth, or for the worth's end."""
    if inner == len(tracing.worths[0]):
        return len(tracing.text)
    part = tracing.parts[0]
    while part.form[0] == "named":
        part = part.parts[0]
    if part.form[0] == "pick":
        return 0
    return part.parts[inner].start if part.form[0] == "spelt" else inner
