"""Where reading fails, and what could stand there."""

from readtell.errors import Fails


def rests_along(rests, text):
    """The list of the rests, by numbers, at the places of the text as far as it begins some text of the book."""
    found = [rests.begun]
    for sign in text:
        rest = rests.step(found[-1], sign)
        if rest is None:
            break
        found.append(rest)
    return found


def check_reads(rests, text):
    """Refuses with Fails a text that isn't one of the book's."""
    along = rests_along(rests, text)
    place = len(along) - 1
    end = rests.may_end(along[place])
    if place < len(text) or not end:
        raise Fails(place, rests.wanted(along[place]), end)


def rest_behind(rests, text):
    """The rest, by its number, behind a text, None where that begins no text of the book."""
    along = rests_along(rests, text)
    return along[len(text)] if len(along) > len(text) else None
