"""Texts of books told once more: written form by form, and read by a descent that tells where it fails."""

from tests.test_forms import SIGNS
from tests.test_thingtexts import FIGURES

LETTERS = "abcdefghijklmnopqrstuvwxyz"
STARTS = "tkswnplreacum"
STROKES = {'"': '\\"', "\\": "\\\\", "\n": "\\n"}


def quoted(text):
    return '"' + "".join(STROKES.get(sign, sign) for sign in text) + '"'


def thing_text(thing):
    if isinstance(thing, tuple):
        return "(" + ",".join(thing_text(part) for part in thing) + ")"
    return quoted(thing) if isinstance(thing, str) else str(thing)


def form_text(form):
    word = form[0]
    if word in ("text", "sign", "word"):
        return word[0] + quoted(form[1])
    if word == "skip":
        return f"k({form_text(form[1])})"
    if word == "number":
        return "n"
    if word == "pick":
        return "p(" + ",".join(quoted(told) + "=" + thing_text(thing) for told, thing in form[1]) + ")"
    if word == "spelt":
        return "l" + form_text(form[1])
    if word == "row":
        return "r(" + ",".join(form_text(inner) for inner in form[1]) + ")"
    if word == "either":
        return "e(" + ",".join(name + ":" + form_text(inner) for name, inner in form[1]) + ")"
    if word == "again":
        return "a(" + form_text(form[1]) + ("" if form[2] is None else "," + form_text(form[2])) + ")"
    if word == "counted":
        return "c" + quoted(form[1]) + form_text(form[2])
    if word == "turned":
        pairs = [thing_text(one) + "=" + thing_text(other) for one, other in form[2]]
        return "u(" + ",".join([form_text(form[1])] + pairs) + ")"
    return "m" + form[1]


def book_text(asked):
    return "of " + asked[0] + "".join(f"\n{name}={form_text(form)}" for name, form in asked[1])


class Stop(Exception):
    pass


class Descent:
    """Goes along a text as a book's; where it stops are the place, and what could stand there."""

    def __init__(self, told):
        self.told = told
        self.place = 0
        # What the thing or name that has just ended could also go on with.
        self.more = ""

    def fails(self):
        """None where the text is one of rows of forms, else place, wants and end."""
        try:
            self.take("o")
            self.take("f")
            self.take(" ")
            self.name()
            while True:
                if self.place == len(self.told):
                    return None
                self.take("\n", True)
                self.name()
                self.take("=")
                self.form()
        except Stop as stop:
            return stop.args

    def sign(self):
        return self.told[self.place:self.place + 1]

    def take(self, signs, end=False):
        wanted = signs + self.more
        sign = self.sign()
        if sign == "" or sign not in signs:
            raise Stop(self.place, "".join(sorted(set(wanted))), end)
        self.place += 1
        self.more = ""
        return sign

    def name(self):
        self.take(LETTERS)
        while self.sign() and self.sign() in LETTERS:
            self.place += 1
        self.more = LETTERS

    def quote(self, first='"'):
        self.take(first)
        while True:
            sign = self.take(SIGNS[1:])
            if sign == '"':
                return
            if sign == "\\":
                self.take('"\\n')

    def thing(self, more=""):
        sign = self.sign()
        if sign == '"':
            self.quote()
        elif sign == "(":
            self.take("(")
            if self.sign() != ")":
                self.thing(")")
                while self.take(",)") == ",":
                    self.thing()
            else:
                self.take(")")
        else:
            sign = self.take('"(' + FIGURES + more)
            if sign != "0":
                while self.sign() and self.sign() in FIGURES:
                    self.place += 1
                self.more = FIGURES

    def form(self, more=""):
        word = self.take(STARTS + more)
        if word in "tsw":
            self.quote()
        elif word == "k":
            self.take("(")
            self.form()
            self.take(")")
        elif word == "p":
            self.take("(")
            self.pair()
            while self.take(",)") == ",":
                self.pair()
        elif word == "l":
            self.form()
        elif word == "r":
            self.take("(")
            if self.sign() == ")":
                self.take(")")
                return
            self.form(")")
            while self.take(",)") == ",":
                self.form()
        elif word == "e":
            self.take("(")
            self.chosen()
            while self.take(",)") == ",":
                self.chosen()
        elif word == "a":
            self.take("(")
            self.form()
            if self.take(",)") == ",":
                self.form()
                self.take(")")
        elif word == "c":
            self.quote()
            self.form()
        elif word == "u":
            self.take("(")
            self.form()
            self.take(",")
            self.turned()
            while self.take(",)") == ",":
                self.turned()
        elif word == "m":
            self.name()

    def pair(self):
        self.quote()
        self.take("=")
        self.thing()

    def chosen(self):
        self.name()
        self.take(":")
        self.form()

    def turned(self):
        self.thing()
        self.take("=")
        self.thing()
