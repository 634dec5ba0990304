"""Rests told once more, row by row as the document's words have them: the program is held against this."""

FIGURES = "0123456789"


def may_be_empty(table, item):
    """Whether the empty text is one of the item's, in a let book."""
    word = item[0]
    if word in ("spelt", "again"):
        return True
    if word in ("skip", "turned"):
        return may_be_empty(table, item[1])
    if word == "row":
        return all(may_be_empty(table, inner) for inner in item[1])
    if word == "either":
        return any(may_be_empty(table, inner) for _, inner in item[1])
    if word == "named":
        return may_be_empty(table, table[item[1]])
    return False


def begins(table, item):
    """The set of the signs with which texts of the item begin, in a let book."""
    word = item[0]
    if word == "text":
        return {item[1][0]}
    if word in ("sign", "word"):
        return set(item[1])
    if word in ("number", "counted"):
        return set(FIGURES)
    if word == "due":
        return set(FIGURES) | {item[2][0]}
    if word == "pick":
        return {text[0] for text, _ in item[1]}
    if word == "left":
        return {text[0] for text in item[1]}
    if word == "row":
        return all_begin(table, item[1])
    if word == "either":
        return set().union(*[begins(table, inner) for _, inner in item[1]])
    if word == "named":
        return begins(table, table[item[1]])
    return begins(table, item[1])


def all_begin(table, items):
    found = set()
    for item in items:
        found |= begins(table, item)
        if not may_be_empty(table, item):
            break
    return found


def rest_behind(table, items, sign):
    """B, None where the rest can't begin so."""
    for at, item in enumerate(items):
        if sign in begins(table, item):
            return derived(table, item, sign) + tuple(items[at + 1:])
        if not may_be_empty(table, item):
            return None
    return None


def derived(table, item, sign):
    """D."""
    word = item[0]
    if word == "text":
        return (("text", item[1][1:]),) if item[1][1:] else ()
    if word == "sign":
        return ()
    if word == "word":
        return (("spelt", ("sign", item[1])),)
    if word == "number":
        return () if sign == "0" else (("spelt", ("sign", FIGURES)),)
    if word in ("pick", "left"):
        texts = item[1] if word == "left" else [text for text, _ in item[1]]
        left = tuple(sorted(text[1:] for text in texts if text.startswith(sign)))
        return () if "" in left else (("left", left),)
    if word == "spelt":
        return derived(table, item[1], sign) + (item,)
    if word == "row":
        return rest_behind(table, item[1], sign)
    if word == "either":
        return [rest_behind(table, (form,), sign) for _, form in item[1] if sign in begins(table, form)][0]
    if word == "again":
        again = ("again", item[1] if item[2] is None else ("row", (item[2], item[1])), None)
        return rest_behind(table, (item[1],), sign) + (again,)
    if word == "counted":
        return (("text", item[1]),) if sign == "0" else (("due", int(sign), item[1], item[2]),)
    if word == "due":
        if sign in FIGURES:
            return (("text", item[2]),) + (item[3],) * (10 * item[1] + int(sign))
        return rest_behind(table, (("text", item[2]),) + (item[3],) * item[1], sign)
    return rest_behind(table, (table[item[1]] if word == "named" else item[1],), sign)
