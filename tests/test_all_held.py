"""Small let books held against others and made shorter: held against all texts of theirs, and all pairs of rests."""

import random
import unittest

from readtell.alikepapers import shows_alike
from readtell.books import is_book
from readtell.forms import inner_forms
from readtell.holding import held
from readtell.looking import verdict
from readtell.shortening import shorter
from tests.making import Maker
from tests.pairs_by_words import is_paper, items_met, least_parting, many_begun, places_in, with_names

SIGNS = 5
MOST = 2000


def put_at(form, path, other):
    """The form with another one at this place in it."""
    if not path:
        return other
    inner = inner_forms(form)
    new = put_at(inner[path[0]], path[1:], other)
    word = form[0]
    if word in ("skip", "spelt", "turned"):
        return (word, new) + form[2:]
    if word == "row":
        return (word, form[1][:path[0]] + (new,) + form[1][path[0] + 1:])
    if word == "either":
        pairs = list(form[1])
        pairs[path[0]] = (pairs[path[0]][0], new)
        return (word, tuple(pairs))
    if word == "again":
        return (word, new, form[2]) if path[0] == 0 else (word, form[1], new)
    return (word, form[1], new)


def changed(asked, maker, chance):
    """A let book that differs at one place, None where none is found."""
    for _ in range(40):
        rows = list(asked[1])
        at = chance.randrange(len(rows))
        name, form = rows[at]
        rows[at] = (name, put_at(form, chance.choice(places_in(form)), maker.form(chance.choice((0, 0, 1)))))
        other = (asked[0], tuple(rows))
        if other != asked and is_book(other) and verdict(other) == ("let",):
            return other
    return None


class AllHeld(unittest.TestCase):
    def test_changed_at_one_place(self):
        told = {"alike": 0, "parts": 0, "open": 0}
        for seed in range(7000, 7330):
            maker = Maker(seed)
            asked = maker.book()
            if verdict(asked) != ("let",):
                continue
            other = changed(asked, maker, random.Random(seed))
            if other is not None:
                least = least_parting(asked, other, SIGNS)
                if least != "?":
                    for most in (1, 2, 3, 5, 9, 40, MOST):
                        told[self.held(asked, other, most, least)] += 1
        self.assertGreater(min(told.values()), 20)

    def held(self, one, other, most, least):
        answer = held(one, other, most)
        self.assertEqual(held(other, one, most)[0], answer[0])
        if answer[0] == "alike":
            self.assertIs(least, None)
            self.paper(one, other, answer[1], most)
        elif answer[0] == "parts":
            self.assertEqual(held(other, one, most), answer)
            if least is None:
                self.assertGreater(len(answer[1]), SIGNS)
            else:
                self.assertEqual(answer[1], least, (one, other))
        else:
            self.assertEqual(answer, ("open",))
            signs = None if least is None else len(least)
            full = held(one, other, MOST)
            if signs is None and full[0] == "parts":
                signs = len(full[1])
            self.assertGreater(many_begun(one, other, signs, most), most, (one, other))
        return answer[0]

    def paper(self, one, other, paper, most):
        self.assertLessEqual(len(paper), most)
        self.assertIs(shows_alike(one, other, paper), True)
        self.assertIs(is_paper(one, other, paper), True)
        for at in range(len(paper)):
            fewer = paper[:at] + paper[at + 1:]
            self.assertIs(shows_alike(one, other, fewer), is_paper(one, other, fewer))
            for pair in ((paper[at][0] + paper[0][0], paper[at][1]), (paper[at][0][1:], paper[at][1]), (paper[at - 1][0], paper[at][1])):
                self.assertIs(shows_alike(one, other, fewer + (pair,)), is_paper(one, other, fewer + (pair,)))

    def test_kin(self):
        many = 0
        for seed in range(7400, 7600):
            asked = Maker(seed).book()
            if verdict(asked) == ("let",) and items_met(asked, 1000) is not None:
                many += 1
                names = {name: new for (name, _), new in zip(asked[1], random.Random(seed).sample(["x", "mm", "b", "a"], 4))}
                for other in (asked, shorter(asked), with_names(asked, names)):
                    for one, two in ((asked, other), (other, asked)):
                        answer = held(one, two, MOST)
                        self.assertEqual(answer[0], "alike")
                        self.assertIs(shows_alike(one, two, answer[1]), True)
        self.assertGreater(many, 100)


if __name__ == "__main__":
    unittest.main()
