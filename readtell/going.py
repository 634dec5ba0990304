"""How a text goes on, and how one that isn't the book's is mended."""

from readtell.failing import rest_behind, rests_along
from readtell.leasts import lesser_first
from readtell.restleasts import RestLeasts
from readtell.restnumbers import Rests


def goes_on(book, text):
    """The least text behind this one that makes it one of the book's, None where there is none."""
    rests = Rests(book)
    rest = rest_behind(rests, text)
    if rest is None:
        return None
    return RestLeasts(rests).of_rest(rest)


def mends(book, text):
    """The tuple of the book's texts that come of this one, which is none, by one sign otherwise."""
    rests = Rests(book)
    along = rests_along(rests, text)
    known = {}
    found = {}
    for place, rest in enumerate(along):
        here = [("", rest)] + [(sign, rests.step(rest, sign)) for sign in rests.wanted(rest)]
        for told, coming in here:
            # With nothing told and nothing left out that is the text itself, which never reads.
            for later in (place, place + 1):
                if _reads_on(rests, known, coming, text, later):
                    found[text[:place] + told + text[later:]] = True
    return tuple(lesser_first(list(found)))


def _reads_on(rests, known, rest, text, place):
    """Whether what stands in the text from a place on is one of the rest's texts.

    What is known of rests and places is told by a dict, which what is found here is put into.
    """
    passed = []
    while rest is not None and (rest, place) not in known and place < len(text):
        passed.append((rest, place))
        rest = rests.step(rest, text[place])
        place += 1
    if rest is None:
        answer = False
    else:
        answer = known[(rest, place)] if (rest, place) in known else rests.may_end(rest)
    for key in passed:
        known[key] = answer
    return answer
