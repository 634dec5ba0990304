"""Two books held against one another: whether they have the same texts, or which is the least that just one has."""

from readtell.leasts import lesser_first
from readtell.papers import Paper
from readtell.pieces import paper_by_pieces
from readtell.restleasts import RestLeasts
from readtell.restpairs import RestPairs, is_nothing


def held(one, other, most):
    """("alike", a paper of at most so many pairs), ("parts", the least text that just one book has) or ("open",)."""
    pairs = RestPairs(one, other)
    found = paper_by_pieces(pairs, most)
    if found is None:
        search = Search(pairs, most)
        if not search.is_done():
            return ("open",)
        if search.least is not None:
            return ("parts", search.least)
        found = search.gone_on
    return ("alike", tuple([pairs.told(pair) for pair in found]))


class Search:
    """Goes on from the pairs of rests behind like beginnings, the lesser beginnings first.

    No pair is gone on from that can be cut into those gone on from. For where a text parts its rests,
    a text within that parts the two rests of a piece, to which a lesser beginning leads.
    """

    def __init__(self, pairs, most):
        self.pairs = pairs
        self.most = most
        self.one = RestLeasts(pairs.one)
        self.other = RestLeasts(pairs.other)
        self.paper = Paper()
        self.gone_on = []
        self.met = {}
        self.coming = []
        # The least text found that just one of the books has.
        self.least = None

    def is_done(self):
        """Goes on from at most so many pairs; whether by these all is known."""
        self.meet("", self.pairs.begun)
        while self.coming:
            now = list(self.coming)
            self.coming = []
            for text, pair in now:
                if self.least is not None and len(self.least) <= len(text):
                    return True
                if not self.paper.cuts(self.pairs.numbers_in(pair)):
                    if len(self.gone_on) == self.most:
                        return False
                    self.go_on(text, pair)
        return True

    def go_on(self, text, pair):
        """Goes on from a pair behind a text."""
        self.gone_on.append(pair)
        self.paper.take(self.pairs.numbers_in(pair))
        for sign, coming in self.pairs.pairs_behind(pair):
            self.meet(text + sign, coming)

    def meet(self, text, pair):
        """Notes a pair behind a text, and the least text that it shows to be just one book's."""
        if pair in self.met or is_nothing(pair):
            return
        self.met[pair] = True
        self.coming.append((text, pair))
        parting = [text + more for more in self.parting(pair)]
        if self.least is not None:
            parting.append(self.least)
        if parting:
            self.least = lesser_first(parting)[0]

    def parting(self, pair):
        """The list of texts that just one rest has as the other may not end there, or not begin so."""
        ends = self.pairs.may_end_by(pair)
        found = [] if ends[0] == ends[1] else [""]
        mine, yours = self.pairs.wanted_by(pair)
        for sign in mine:
            if sign not in yours:
                found.append(sign + self.one.of_rest(self.pairs.one.step(pair[0], sign)))
        for sign in yours:
            if sign not in mine:
                found.append(sign + self.other.of_rest(self.pairs.other.step(pair[1], sign)))
        return found
