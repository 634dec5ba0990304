"""Walks told once more, by trying all of them: what the program says is held against this."""


def walks_of(book, most_signs, most_steps):
    """All (text, way, worth) of the book with at most so many signs and decisions."""
    table = dict(book[1])
    found = []
    for text, way, worth in _walks(table, table[book[0]], 0, most_signs, most_steps, (book[0],)):
        found.append((text, way, worth))
    return found


def go_apart(one, other):
    """Whether these two (text, way)s go apart, as the document's words say it."""
    (text, way), (text2, way2) = one, other
    for at in range(min(len(way), len(way2))):
        if way[at] != way2[at]:
            place = way[at][0]
            if place != way2[at][0] or way[at][1] == way2[at][1] or text[:place] != text2[:place]:
                return False
            if place == len(text) or place == len(text2):
                return len(text) == len(text2)
            return text[place] == text2[place]
    return False


def bare(form):
    return form[0] in ("text", "skip")


def _walks(table, form, place, signs, steps, names):
    """Walks of a form from a place on. The names are those gone into since the last sign or decision."""
    word = form[0]
    if word == "text":
        if len(form[1]) <= signs:
            yield form[1], (), ()
    elif word == "skip":
        for text, way, _ in _walks(table, form[1], place, signs, steps, names):
            yield text, way, ()
    elif word == "sign":
        if signs > 0:
            for sign in form[1]:
                yield sign, (), sign
    elif word == "word":
        yield from _words(form[1], form[1], place, signs, steps)
    elif word == "number":
        if signs > 0:
            yield "0", (), 0
        for text, way, worth in _words("123456789", "0123456789", place, signs, steps):
            yield text, way, int(worth)
    elif word == "pick":
        for text, thing in form[1]:
            if len(text) <= signs:
                yield text, (), thing
    elif word == "spelt":
        for text, way, worth in _loops(table, form[1], None, place, signs, steps, True):
            yield text, way, "".join(worth)
    elif word == "again":
        yield from _loops(table, form[1], form[2], place, signs, steps, True)
    elif word == "row":
        for text, way, worths in _rows(table, form[1], place, signs, steps, names):
            yield text, way, tuple([w for f, w in zip(form[1], worths) if not bare(f)])
    elif word == "either":
        if steps > 0:
            for choice, (name, inner) in enumerate(form[1]):
                for text, way, worth in _walks(table, inner, place, signs, steps - 1, ()):
                    yield text, ((place, choice),) + way, (name,) if bare(inner) else (name, worth)
    elif word == "counted":
        yield from _counts(table, form, place, signs, steps)
    elif word == "turned":
        turn = {}
        for one, other in form[2]:
            turn[one] = other
            turn[other] = one
        for text, way, worth in _walks(table, form[1], place, signs, steps, names):
            yield text, way, turn.get(worth, worth)
    elif form[1] not in names:
        yield from _walks(table, table[form[1]], place, signs, steps, names + (form[1],))


def _words(first, more, place, signs, steps):
    if signs == 0 or steps == 0:
        return
    for sign in first:
        yield sign, ((place + 1, 0),), sign
        for text, way, worth in _words(more, more, place + 1, signs - 1, steps - 1):
            yield sign + text, ((place + 1, 1),) + way, sign + worth


def _loops(table, form, between, place, signs, steps, first):
    if steps == 0:
        return
    yield "", ((place, 0),), ()
    row = (form,) if first or between is None else (between, form)
    for text, way, worths in _rows(table, row, place, signs, steps - 1, ()):
        behind = place + len(text)
        for text2, way2, worth2 in _loops(
                table, form, between, behind, signs - len(text), steps - 1 - len(way), False):
            yield text + text2, ((place, 1),) + way + way2, (worths[-1],) + worth2


def _rows(table, forms, place, signs, steps, names):
    if not forms:
        yield "", (), ()
        return
    for text, way, worth in _walks(table, forms[0], place, signs, steps, names):
        later = () if text or way else names
        for text2, way2, worths in _rows(
                table, forms[1:], place + len(text), signs - len(text), steps - len(way), later):
            yield text + text2, way + way2, (worth,) + worths


def _counts(table, form, place, signs, steps):
    for count in range(100):
        figures = str(count)
        way = () if count == 0 else ((place + 1, len(figures) - 1),)
        start = figures + form[1]
        if len(start) > signs or len(way) > steps:
            continue
        row = (form[2],) * count
        for text, way2, worths in _rows(
                table, row, place + len(start), signs - len(start), steps - len(way), ()):
            yield start + text, way + way2, worths
