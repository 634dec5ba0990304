"""Small books, of which all walks up to a length are tried, held against what the program tells."""

import unittest

from readtell.apart import shows_apart
from readtell.books import is_book, names_met
from readtell.leasts import endless, least_text
from readtell.looking import verdict
from readtell.walking import shows_read, walked
from readtell.worths import is_worth
from tests.brute import go_apart, walks_of
from tests.making import Maker

SIGNS = 4
STEPS = 6


class AllWalks(unittest.TestCase):
    def test_small_books(self):
        kinds = {"let": 0, "endless": 0, "apart": 0}
        for seed in range(600):
            book = Maker(seed).book()
            self.assertTrue(is_book(book), book)
            walks = walks_of(book, SIGNS, STEPS)
            answer = verdict(book)
            kinds[answer[0]] += 1
            self.walks(book, walks[:200])
            self.others(book, walks[:40], walks)
            self.leasts(book)
            getattr(self, answer[0])(book, answer, walks)
        self.assertGreater(min(kinds.values()), 30)

    def walks(self, book, walks):
        for text, way, worth in walks:
            self.assertEqual(walked(book, text, way), worth, (book, text, way))
            self.assertIs(shows_read(book, text, way, worth), True)
            self.assertIs(is_worth(book, book[0], worth), True, (book, worth))

    def others(self, book, some, walks):
        worths = {(text, way): worth for text, way, worth in walks}
        for text, way, _ in some:
            for at in range(len(way) + 1):
                for step in ((at, 0), (at, 1), way[0] if way else (0, 2)):
                    self.check(book, worths, text, way[:at] + (step,) + way[at:])
                    self.check(book, worths, text, way[:at] + (step,) + way[at + 1:])
                self.check(book, worths, text, way[:at] + way[at + 1:])
            for at in range(len(text) + 1):
                for sign in "a1,":
                    self.check(book, worths, text[:at] + sign + text[at:], way)
                    self.check(book, worths, text[:at] + sign + text[at + 1:], way)
                self.check(book, worths, text[:at] + text[at + 1:], way)

    def check(self, book, worths, text, way):
        if len(text) <= SIGNS and len(way) <= STEPS:
            self.assertEqual(walked(book, text, way), worths.get((text, way)), (book, text, way))

    def leasts(self, book):
        for name in names_met(book):
            least = least_text(book, name)
            self.assertEqual(least is None, name in endless(book))
            texts = [text for text, _, _ in walks_of((name, book[1]), 3, STEPS)]
            if texts:
                self.assertLessEqual((len(least), least), min((len(text), text) for text in texts))
            if least is not None and len(least) <= 2:
                steps = [len(way) for text, way, _ in walks_of((name, book[1]), 2, 9) if text == least]
                self.assertTrue(steps, (book, name, least))

    def let(self, book, answer, walks):
        self.assertEqual(answer, ("let",))
        self.assertEqual(endless(book), ())
        texts = [text for text, _, _ in walks]
        self.assertEqual(len(texts), len(set(texts)), book)
        walks = walks[:80]
        for one in walks:
            for other in walks:
                self.assertFalse(go_apart(one[:2], other[:2]), (book, one, other))

    def endless(self, book, answer, walks):
        self.assertEqual(answer, ("endless", endless(book)[0]))
        self.assertEqual(walks_of((answer[1], book[1]), SIGNS, STEPS), [])

    def apart(self, book, answer, walks):
        self.assertEqual(endless(book), ())
        self.assertTrue(go_apart(answer[1], answer[2]), (book, answer))
        self.assertIs(shows_apart(book, answer[1:]), True)
        told = {(text, way) for text, way, _ in walks}
        for text, way in answer[1:]:
            self.assertIsNot(walked(book, text, way), None)
            if len(text) <= SIGNS and len(way) <= STEPS:
                self.assertIn((text, way), told)


if __name__ == "__main__":
    unittest.main()
