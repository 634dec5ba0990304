"""Small books made by chance, the same for the same seed."""

import random

from readtell.forms import is_form

LEAVES = ("text", "sign", "word", "number", "pick", "spelt", "row", "named")
BRANCHES = ("skip", "row", "either", "again", "counted", "turned")
ALPHABETS = ("ab", "a1", "ab1,", "abc")


class Maker:
    def __init__(self, seed):
        self.chance = random.Random(seed)
        self.signs = self.chance.choice(ALPHABETS)
        self.names = sorted(self.chance.sample("abcd", self.chance.randint(1, 3)))

    def book(self):
        rows = tuple((name, self.form(self.chance.randint(0, 3))) for name in self.names)
        return (self.chance.choice(self.names), rows)

    def text(self):
        return "".join(self.chance.choice(self.signs) for _ in range(self.chance.choice((1, 1, 2))))

    def set(self):
        return "".join(sorted(self.chance.sample(self.signs, self.chance.randint(1, 2))))

    def form(self, deep):
        word = self.chance.choice(LEAVES if deep == 0 else LEAVES + BRANCHES * 2)
        if word == "text":
            return (word, self.text())
        if word in ("sign", "word"):
            return (word, self.set())
        if word == "number":
            return (word,)
        if word == "pick":
            return self.pick(("x", "y", 0, 1, "ab"))
        if word == "spelt":
            return (word, self.chance.choice((("sign", self.set()), self.pick(self.signs))))
        if word == "named":
            return (word, self.chance.choice(self.names))
        if word == "row":
            return (word, tuple(self.form(deep - 1) for _ in range(self.chance.randint(0, 3) if deep else 0)))
        return self.branch(word, deep - 1)

    def pick(self, things):
        form = None
        while not is_form(form):
            pairs = [(self.text(), self.chance.choice(things)) for _ in range(self.chance.randint(1, 3))]
            form = ("pick", tuple(pairs))
        return form

    def branch(self, word, deep):
        inner = self.form(deep)
        if word == "skip":
            return (word, inner)
        if word == "either":
            more = tuple(self.form(deep) for _ in range(self.chance.randint(0, 2)))
            return (word, tuple(zip("xyz", (inner,) + more)))
        if word == "again":
            return (word, inner, self.chance.choice((None, ("text", self.text()), ("skip", self.form(0)))))
        if word == "counted":
            return (word, self.text(), inner)
        return (word, ("number",), ((0, 1), (2, 13)))
