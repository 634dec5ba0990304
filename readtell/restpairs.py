"""Pairs of rests, of one book and of another, and what comes of both behind the same sign."""

from readtell.restnumbers import EMPTY, Rests


def is_nothing(pair):
    """Whether this is the pair of two rests without items."""
    return pair == (EMPTY, EMPTY)


class RestPairs:
    """Pairs of rests of two books, by the numbers of the rests."""

    def __init__(self, one, other):
        self.one = Rests(one)
        self.other = Rests(other)
        self.begun = (self.one.begun, self.other.begun)
        self.gone_on = {}

    def may_end_by(self, pair):
        """Whether the one rest may end, and whether the other one may."""
        return (self.one.may_end(pair[0]), self.other.may_end(pair[1]))

    def wanted_by(self, pair):
        """The signs that the one rest wants, and those that the other one does."""
        return (self.one.wanted(pair[0]), self.other.wanted(pair[1]))

    def look_alike(self, pair):
        """Whether both rests may end or neither, and both want the same signs."""
        ends = self.may_end_by(pair)
        wants = self.wanted_by(pair)
        return ends[0] == ends[1] and wants[0] == wants[1]

    def pairs_behind(self, pair):
        """The list of (sign, the pair behind it), for the signs that both rests want; found once."""
        if pair not in self.gone_on:
            mine, yours = self.wanted_by(pair)
            self.gone_on[pair] = [(sign, self.step(pair, sign)) for sign in mine if sign in yours]
        return self.gone_on[pair]

    def step(self, pair, sign):
        """The pair behind a sign that both rests want."""
        return (self.one.step(pair[0], sign), self.other.step(pair[1], sign))

    def numbers_in(self, pair):
        """The numbers of the items of the two rests, as a tuple for each."""
        return (tuple(self.one.numbers_in(pair[0])), tuple(self.other.numbers_in(pair[1])))

    def told(self, pair):
        """The two rests as tuples of items."""
        return (tuple(self.one.listed(pair[0])), tuple(self.other.listed(pair[1])))
