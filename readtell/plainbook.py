"""The plain book, which reads the texts of all books, and the worths to which it reads them."""

from readtell.books import is_book
from readtell.errors import NoBook
from readtell.formworths import form_of_worth, worth_of_form
from readtell.thingbook import thing_rows
from readtell.worths import is_worth

_FORM = ("named", "form")
_NAME = ("word", "abcdefghijklmnopqrstuvwxyz")
_QUOTE = ("named", "quote")
_THING = ("named", "thing")
_COMMA = ("text", ",")
_CLOSE = ("text", ")")


def plain_book():
    """A let book of all texts that are rows of forms, whether they make books or not."""
    row = ("row", (("text", "\n"), _NAME, ("text", "="), _FORM))
    book = ("row", (("text", "of "), _NAME, ("again", row, None)))
    return ("book", (("book", book), ("form", ("either", _forms()))) + thing_rows())


def as_worth(book):
    """The worth to which the plain book reads the text of a book."""
    return (book[0], tuple([(name, worth_of_form(form)) for name, form in book[1]]))


def of_worth(worth):
    """The book of such a worth; refused with NoBook where it makes none."""
    plain = plain_book()
    if not is_worth(plain, plain[0], worth):
        raise NoBook("no worth of the plain book")
    return made_book(worth)


def made_book(worth):
    """The book of what is a worth of the plain book; refused with NoBook where it makes none."""
    book = (worth[0], tuple([(name, form_of_worth(inner)) for name, inner in worth[1]]))
    if not is_book(book):
        raise NoBook("rows of forms that make no book")
    return book


def _forms():
    """The choices of a form, named by its word; each begins with another letter."""
    pair = ("row", (_QUOTE, ("text", "="), _THING))
    chosen = ("row", (_NAME, ("text", ":"), _FORM))
    turned = ("row", (_THING, ("text", "="), _THING))
    between = ("either", (("alone", ("row", ())), ("between", ("row", (_COMMA, _FORM)))))
    return (
        ("text", _row("t", _QUOTE)), ("skip", _row("k(", _FORM, _CLOSE)), ("sign", _row("s", _QUOTE)),
        ("word", _row("w", _QUOTE)), ("number", ("text", "n")), ("pick", _row("p(", _listed(pair), _CLOSE)),
        ("spelt", _row("l", _FORM)), ("row", _row("r(", ("again", _FORM, _COMMA), _CLOSE)),
        ("either", _row("e(", _listed(chosen), _CLOSE)), ("again", _row("a(", _FORM, between, _CLOSE)),
        ("counted", _row("c", _QUOTE, _FORM)), ("turned", _row("u(", _FORM, _COMMA, _listed(turned), _CLOSE)),
        ("named", _row("m", _NAME)),
    )


def _row(text, *forms):
    return ("row", (("text", text),) + forms)


def _listed(form):
    """A form for a list of one or more of this form."""
    return ("row", (form, ("again", ("row", (_COMMA, form)), None)))
