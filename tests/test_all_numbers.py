"""Small let books, of which all texts up to a length are known, held against what the program counts and keeps."""

import random
import unittest

from readtell.counting import how_many
from readtell.errors import NoText
from readtell.keeping import led, put
from readtell.looking import verdict
from readtell.numbering import number_of, text_at
from readtell.reading import read
from readtell.spans import spans
from tests import descent
from tests.brute import walks_of
from tests.making import Maker

SIGNS = 4
STEPS = 14


class AllNumbers(unittest.TestCase):
    def test_small_books(self):
        many = 0
        for seed in range(2000, 2160):
            maker = Maker(seed)
            asked = maker.book()
            if verdict(asked) == ("let",):
                many += 1
                known = {told: worth for told, _, worth in walks_of(asked, SIGNS, STEPS)}
                texts = sorted(known, key=lambda told: (len(told), told))
                self.counts(asked, texts, maker.signs)
                self.numbers(asked, texts)
                self.kept(asked, known, random.Random(seed))
        self.assertGreater(many, 90)

    def counts(self, asked, texts, signs):
        for begin in ["", "0", *signs, *[told[:-1] for told in texts[:20:3] if told]]:
            for most in (0, 1, SIGNS):
                found = how_many(asked, begin, most)
                self.assertEqual(len(found), most + 1)
                for more in range(min(most, SIGNS - len(begin)) + 1):
                    wanted = [told for told in texts if told.startswith(begin) and len(told) == len(begin) + more]
                    self.assertEqual(found[more], len(wanted), (asked, begin))

    def numbers(self, asked, texts):
        for k, told in list(enumerate(texts))[:40]:
            self.assertEqual(text_at(asked, k, SIGNS), told)
            self.assertEqual(text_at(asked, k, 24), told)
            self.assertEqual(number_of(asked, told), k)
            if told:
                self.assertRaises(NoText, text_at, asked, k, len(told) - 1)
        self.assertRaises(NoText, text_at, asked, len(texts), SIGNS)
        there = sum(how_many(asked, "", 24))
        for k in (there - 1, there // 2, there // 3):
            if k >= 0:
                self.assertEqual(number_of(asked, text_at(asked, k, 24)), k)
        self.assertRaises(NoText, text_at, asked, there, 24)

    def kept(self, asked, known, chance):
        texts = chance.sample(sorted(known), min(10, len(known)))
        for told in texts:
            self.assertEqual(spans(asked, told), descent.spans_of(asked, told))
            self.assertEqual(put(asked, told, known[told]), told)
            for other in texts:
                anew = put(asked, told, known[other])
                self.assertEqual(anew, descent.put_by_words(asked, told, known[other]))
                self.assertEqual(read(asked, anew), known[other])
                self.assertEqual(led(asked, asked, told, known[other]), (anew, known[other]))


if __name__ == "__main__":
    unittest.main()
