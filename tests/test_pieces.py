"""Papers by pieces: of books told otherwise, whose rests never end alike."""

import random
import unittest

from readtell.alikepapers import shows_alike
from readtell.books import is_book
from readtell.holding import held
from readtell.looking import verdict
from readtell.pieces import paper_by_pieces
from readtell.restpairs import RestPairs
from tests.making import Maker
from tests.samples import A, AB, COMMA, EMPTY, MAYBE, again, counted, either, row, text
from tests.test_holding import EMPTY_BESIDE, OTHERWISE


def told_otherwise(chance, form):
    """A form of the same texts."""
    word = form[0]
    if word == "text" and len(form[1]) > 1 and chance.random() < 0.5:
        at = chance.randrange(1, len(form[1]))
        return row(text(form[1][:at]), text(form[1][at:]))
    if word == "sign" and len(form[1]) > 1 and chance.random() < 0.4:
        return either(*[text(sign) for sign in chance.sample(form[1], len(form[1]))])
    if word == "word" and chance.random() < 0.4:
        return row(("sign", form[1]), ("spelt", ("sign", form[1])))
    if word == "spelt" and chance.random() < 0.4:
        return again(form[1])
    if word in ("skip", "turned"):
        return told_otherwise(chance, form[1])
    if word == "row":
        return otherwise_row(chance, form)
    if word == "either":
        inner = [one for _, one in form[1]]
        chance.shuffle(inner)
        return either(*[told_otherwise(chance, one) for one in inner])
    if word == "again":
        if form[2] is not None and chance.random() < 0.4:
            first, more = told_otherwise(chance, form[1]), told_otherwise(chance, form[1])
            return either(EMPTY, row(first, again(row(told_otherwise(chance, form[2]), more))))
        return again(told_otherwise(chance, form[1]), form[2])
    return counted(form[1], told_otherwise(chance, form[2])) if word == "counted" else form


def otherwise_row(chance, form):
    found = []
    for inner in form[1]:
        if chance.random() < 0.3:
            found.append(EMPTY)
        found.append(told_otherwise(chance, inner))
        if chance.random() < 0.2:
            found.append(row(EMPTY))
    if len(found) > 1 and chance.random() < 0.3:
        at = chance.randrange(1, len(found))
        found = [row(*found[:at])] + found[at:]
    return row(*found)


def nested(asked):
    """A book of texts in brackets within one another, each with a text of this book."""
    rows = {**dict(asked[1]), "r": row(text("("), again(("named", "r")), text("="), ("named", asked[0]), text(")"))}
    return ("s", tuple(sorted({**rows, "s": row(("named", "r"), text("$"))}.items())))


class Pieces(unittest.TestCase):
    def alike(self, one, other, most):
        for mine, yours in ((one, other), (other, one)):
            pairs = RestPairs(mine, yours)
            found = paper_by_pieces(pairs, most)
            self.assertIsNot(found, None, (mine, yours))
            self.assertLessEqual(len(found), most)
            self.assertEqual(len(set(found)), len(found))
            self.assertIs(shows_alike(mine, yours, tuple(pairs.told(pair) for pair in found)), True)
            self.assertIs(paper_by_pieces(RestPairs(mine, yours), len(found) - 1), None)
            self.assertEqual(held(mine, yours, len(found))[0], "alike")

    def test_by_hand(self):
        for one, other in OTHERWISE + EMPTY_BESIDE:
            found = [nested(("a", (("a", row(form, text(".")),),))) for form in (one, other)]
            if verdict(found[0]) == ("let",):
                self.alike(*found, 120)

    def test_what_may_be_empty(self):
        forms = (MAYBE, again(COMMA), row(EMPTY, MAYBE), row(MAYBE, EMPTY), either(EMPTY, row(COMMA, again(AB))), row(EMPTY, again(COMMA), EMPTY, again(AB)))
        for form in forms:
            for one in (row(A, text("<"), form, text(">")), row(form, text("<"), form, text(">"))):
                asked = ("b", (("a", row(text("["), form, text("]"))), ("b", either(row(text("("), ("named", "b"), one), text("!")))))
                self.assertEqual(verdict(asked), ("let",))
                for seed in range(8):
                    chance = random.Random(seed)
                    other = ("b", tuple((name, told_otherwise(chance, form)) for name, form in asked[1]))
                    self.alike(nested(asked), nested(other), 120)

    def test_small_books(self):
        many = 0
        for seed in range(9000, 9260):
            asked = nested(Maker(seed).book())
            chance = random.Random(seed)
            other = ("s", tuple((name, told_otherwise(chance, form)) for name, form in asked[1]))
            if verdict(asked) == ("let",) and is_book(other) and verdict(other) == ("let",):
                many += other != asked
                self.alike(asked, other, 120)
        self.assertGreater(many, 100)

    def test_books_that_are_not_alike(self):
        for one, other in ((text("a"), text("b")), (again(AB), again(COMMA)), (row(AB, AB), AB), (MAYBE, AB)):
            found = [nested(("a", (("a", row(form, text(".")),),))) for form in (one, other)]
            self.assertIs(paper_by_pieces(RestPairs(*found), 2000), None)


if __name__ == "__main__":
    unittest.main()
