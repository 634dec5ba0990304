"""A desk: a book is asked by lines, and keeps a text."""

from readtell.booktexts import read_book, show_book
from readtell.counting import how_many
from readtell.errors import Fails, NoKept, NoLine, NotLet
from readtell.going import goes_on, mends
from readtell.holding import held
from readtell.keeping import put
from readtell.looking import verdict
from readtell.numbering import number_of, text_at
from readtell.reading import read
from readtell.shortening import shorter
from readtell.signs import FIGURES, figures_of, number_of_figures
from readtell.telling import tell
from readtell.thingtexts import read_thing, show_thing

# The most signs that count and at go to, the most figures of a number, and the most pairs of against.
_MOST_SIGNS = 24
_MOST_FIGURES = 12
_MOST_PAIRS = 100


def _read(desk, rest):
    return show_thing(read(desk.book, rest))


def _tell(desk, rest):
    return show_thing(tell(desk.book, _thing_in(rest)))


def _try(desk, rest):
    try:
        read(desk.book, rest)
    except Fails as failing:
        end = "yes" if failing.end else "no"
        return f"fails {failing.place} {show_thing(failing.wants)} {end}"
    return "reads"


def _more(desk, rest):
    more = goes_on(desk.book, rest)
    return "none" if more is None else show_thing(more)


def _count(desk, rest):
    most = _number_in(rest)
    if most > _MOST_SIGNS:
        raise NoLine("more signs than are counted")
    return " ".join([figures_of(many) for many in how_many(desk.book, "", most)])


def _at(desk, rest):
    return show_thing(text_at(desk.book, _number_in(rest), _MOST_SIGNS))


def _mends(desk, rest):
    if _reads(desk, rest):
        return "reads"
    found = mends(desk.book, rest)
    return " ".join([show_thing(text) for text in found]) if found else "-"


def _number(desk, rest):
    return figures_of(number_of(desk.book, rest))


def _keep(desk, rest):
    read(desk.book, rest)
    desk.kept = rest
    return "ok"


def _worth(desk, _):
    return show_thing(read(desk.book, _kept_by(desk)))


def _change(desk, rest):
    thing = _thing_in(rest)
    desk.kept = put(desk.book, _kept_by(desk), thing)
    return "ok"


def _kept(desk, _):
    return show_thing(_kept_by(desk))


def _against(desk, rest):
    answer = held(desk.book, _let_book(rest), _MOST_PAIRS)
    return f"parts {show_thing(answer[1])}" if answer[0] == "parts" else answer[0]


def _short(desk, _):
    return show_book(shorter(desk.book))


# What answers to each word that stands alone, and to each with something behind it.
_ALONE = {"worth": _worth, "kept": _kept, "short": _short}
_WITH_REST = {
    "read": _read, "tell": _tell, "try": _try, "more": _more, "count": _count, "at": _at, "mends": _mends,
    "number": _number, "keep": _keep, "change": _change, "against": _against,
}


class Desk:
    """A desk of the book that a text writes.

    Refused as read_book is, then with NotLet where the book isn't let.
    """

    def __init__(self, text):
        self.book = _let_book(text)
        self.kept = None

    def say(self, line):
        """The answer to a line; what is refused changes nothing."""
        word, blank, rest = line.partition(" ")
        if blank and word in _WITH_REST:
            answer = _WITH_REST[word]
        elif not blank and word in _ALONE:
            answer = _ALONE[word]
        else:
            raise NoLine("no such line")
        return answer(self, rest)


def _let_book(text):
    """The let book that the text writes."""
    book = read_book(text)
    if verdict(book) != ("let",):
        raise NotLet("this book isn't let")
    return book


def _reads(desk, text):
    try:
        read(desk.book, text)
    except Fails:
        return False
    return True


def _kept_by(desk):
    """The text that the desk keeps; refused with NoKept where it keeps none."""
    if desk.kept is None:
        raise NoKept("nothing is kept")
    return desk.kept


def _thing_in(text):
    """The thing that is so written; refused with NoLine where none is."""
    try:
        return read_thing(text)
    except Fails:
        raise NoLine("no thing is so written") from None


def _number_in(text):
    """The number that is so written; refused with NoLine where none is, or where it has too many figures."""
    if not 1 <= len(text) <= _MOST_FIGURES or not all(figure in FIGURES for figure in text):
        raise NoLine("no number is so written, or one that is beyond")
    if text[0] == "0" and text != "0":
        raise NoLine("a number with a nought ahead")
    return number_of_figures(text)
