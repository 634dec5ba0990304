"""A paper by pieces: two rests are cut where the least texts of what is ahead are the same."""

from readtell.restleasts import RestLeasts
from readtell.restnumbers import EMPTY
from readtell.restpairs import is_nothing


def paper_by_pieces(pairs, most):
    """The list of at most so many pairs of a paper, None where none was found so."""
    cutter = Cutter(pairs)
    found = {pairs.begun: True}
    todo = [pairs.begun]
    while todo:
        if len(found) > most:
            return None
        pair = todo.pop()
        if not pairs.look_alike(pair):
            return None
        for _, coming in pairs.pairs_behind(pair):
            for piece in cutter.pieces(coming):
                if piece not in found:
                    found[piece] = True
                    todo.append(piece)
    return list(found)


class Cutter:
    """Cuts two rests into pieces that may have the same texts; each two rests once."""

    def __init__(self, pairs):
        self.pairs = pairs
        self.one = RestLeasts(pairs.one)
        self.other = RestLeasts(pairs.other)
        self.found = {}

    def pieces(self, pair):
        """The list of the pairs into which a pair is cut, the pair alone where no such cut is found."""
        if pair not in self.found:
            pieces = [piece for piece in self.cut(pair) if not is_nothing(piece)]
            self.found[pair] = pieces if all(self.pairs.look_alike(piece) for piece in pieces) else [pair]
        return self.found[pair]

    def cut(self, pair):
        """The list of as many pieces as are found from the beginning on, and of one of what is behind them."""
        one, other = self.pairs.numbers_in(pair)
        mine = Run(self.one, one, 0)
        yours = Run(self.other, other, 0)
        pieces = []
        while _grow_alike(mine, yours):
            pieces.append((mine.as_rest(), yours.as_rest()))
            mine = Run(self.one, one, mine.end)
            yours = Run(self.other, other, yours.end)
        pieces.append((mine.all_behind(), yours.all_behind()))
        return pieces


class Run:
    """Items beside one another in a rest, from a place on: none at first, then more and more."""

    def __init__(self, leasts, numbers, start):
        self.leasts = leasts
        self.rests = leasts.rests
        self.numbers = numbers
        self.start = start
        self.end = start
        self.texts = []
        self.length = 0
        self.signs = ""

    def grows(self):
        """Takes one more item, and tells whether there was one."""
        if self.end == len(self.numbers):
            return False
        number = self.numbers[self.end]
        if self.length == 0:
            # So far all of them may be empty, as just those may whose least text has no signs.
            self.signs = "".join(sorted(set(self.signs + self.rests.signs[number])))
        self.texts.append(self.leasts.of_item(number))
        self.length += len(self.texts[-1])
        self.end += 1
        return True

    def least_told(self):
        """The least text of these items."""
        return "".join(self.texts)

    def as_rest(self):
        """These items as a rest."""
        return self.rests.ahead(self.numbers[self.start:self.end], EMPTY)

    def all_behind(self):
        """All items from the place on as a rest."""
        return self.rests.ahead(self.numbers[self.start:], EMPTY)


def _grow_alike(mine, yours):
    """Lets two runs, of no items yet, grow as little as can be, until they may have the same texts; whether they do."""
    if not mine.grows() or not yours.grows():
        return False
    while mine.length != yours.length or mine.signs != yours.signs:
        lesser = _lesser(mine, yours)
        if lesser is None or not lesser.grows():
            return False
    return mine.least_told() == yours.least_told()


def _lesser(mine, yours):
    """The run to which something must be added, None where that doesn't help."""
    if mine.length != yours.length:
        return mine if mine.length < yours.length else yours
    if mine.length > 0:
        return None
    return mine if all(sign in yours.signs for sign in mine.signs) else yours
