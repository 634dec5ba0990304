"""Signs, texts of signs, sets of them, and whole numbers."""

FIGURES = "0123456789"

# The one character between the blank and ~ that is no sign.
_PERCENT = 37


def is_sign(letter):
    """Whether a text of one character is a sign."""
    if letter == "\n":
        return True
    return " " <= letter <= "~" and ord(letter) != _PERCENT


def is_text(x):
    """Whether this, of any kind, is a text of signs."""
    return isinstance(x, str) and all(is_sign(letter) for letter in x)


def is_told(x):
    """Whether this, of any kind, is a text of one sign or more."""
    return is_text(x) and len(x) > 0


def is_set(x):
    """Whether this, of any kind, is a text of one sign or more, each less than the next."""
    return is_told(x) and all(x[k] < x[k + 1] for k in range(len(x) - 1))


def is_int(x):
    """Whether this, of any kind, is an int and no truth."""
    return isinstance(x, int) and not isinstance(x, bool)


def is_number(x):
    """Whether this, of any kind, is a whole number from 0."""
    return is_int(x) and x >= 0


def number_of_figures(figures):
    """The whole number that figures tell, however many (Python's own int refuses very many)."""
    number = 0
    for figure in figures:
        number = number * 10 + int(figure)
    return number


def figures_of(number):
    """The figures of a whole number from 0, however many (Python's own str refuses very many)."""
    figures = []
    while number > 9:
        number, figure = divmod(number, 10)
        figures.append(FIGURES[figure])
    figures.append(FIGURES[number])
    return "".join(figures[::-1])
