"""One step: what may still come of items behind a sign."""

from readtell.signs import FIGURES


def behind_items(openings, items, sign):
    """What may still come of these items behind the sign, None where they can't begin so."""
    if not openings.begin_with(items, sign):
        return None
    at = _first_begun(openings, items, sign)
    return behind_item(openings, items[at], sign) + tuple(items[at + 1:])


def behind_item(openings, item, sign):
    """The tuple of items that may still come of this one behind the sign, which can begin it."""
    tails = []
    while item is not None:
        item, tail = _into(openings, item, sign)
        tails.append(tail)
    return tuple([part for tail in reversed(tails) for part in tail])


def _first_begun(openings, items, sign):
    """The place of the first of these items that can begin with the sign."""
    at = 0
    while not openings.begin_with([items[at]], sign):
        at += 1
    return at


def _into(openings, item, sign):
    """What may still come of this item behind the sign, as (inner, tail).

    That is what may still come of the item inner (of None nothing), then the items of the tail.
    """
    word = item[0]
    if word in ("skip", "turned"):
        return item[1], ()
    if word == "spelt":
        return item[1], (item,)
    if word == "row":
        at = _first_begun(openings, item[1], sign)
        return item[1][at], item[1][at + 1:]
    if word == "either":
        inner = [form for _, form in item[1]]
        return inner[_first_begun(openings, inner, sign)], ()
    if word == "again":
        more = item[1] if item[2] is None else ("row", (item[2], item[1]))
        return item[1], (("again", more, None),)
    if word == "due" and sign not in FIGURES:
        return ("text", item[2]), (item[3],) * item[1]
    if word == "named":
        return openings.table[item[1]], ()
    return None, _behind_first(item, sign)


def _behind_first(item, sign):
    """The items that may still come of an item whose first sign no other item tells."""
    word = item[0]
    if word == "text":
        return (("text", item[1][1:]),) if len(item[1]) > 1 else ()
    if word == "word":
        return (("spelt", ("sign", item[1])),)
    if word == "number":
        return () if sign == "0" else (("spelt", ("sign", FIGURES)),)
    if word == "pick":
        return _left([text for text, _ in item[1]], sign)
    if word == "left":
        return _left(item[1], sign)
    if word == "counted":
        return (("text", item[1]),) if sign == "0" else (("due", int(sign), item[1], item[2]),)
    if word == "due":
        return (("text", item[2]),) + (item[3],) * (10 * item[1] + int(sign))
    return ()


def _left(texts, sign):
    """The items for what is behind the sign in those of these texts that begin with it."""
    behind = sorted([text[1:] for text in texts if text[0] == sign])
    # No text begins another one: so where one has nothing left, it is the only one.
    return () if behind == [""] else (("left", tuple(behind)),)
