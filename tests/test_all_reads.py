"""Small let books, of which all texts up to a length are known, held against what the program reads and tells."""

import itertools
import unittest

from readtell.books import is_book
from readtell.errors import Fails, FormError
from readtell.going import goes_on, mends
from readtell.looking import verdict
from readtell.reading import read, way_of
from readtell.rests import begun, behind, may_end, wants
from readtell.telling import tell, told_book
from readtell.walking import walked
from tests import words
from tests.brute import walks_of
from tests.making import Maker

SIGNS = 4
STEPS = 14


def by_length(told):
    return (len(told), told)


class AllReads(unittest.TestCase):
    def test_small_books(self):
        many = 0
        for seed in range(1000, 1180):
            maker = Maker(seed)
            asked = maker.book()
            if verdict(asked) != ("let",):
                continue
            many += 1
            known = {told: (way, worth) for told, way, worth in walks_of(asked, SIGNS, STEPS)}
            signs = "".join(sorted(set(maker.signs + "01")))
            texts = ["".join(told) for length in range(4) for told in itertools.product(signs, repeat=length)]
            texts = texts[::1 + len(texts) // 60] + sorted(known, key=by_length)[:40]
            for told in texts:
                self.text(asked, known, told, signs)
            for told in texts[::9]:
                if told not in known and len(told) < SIGNS:
                    self.mended(asked, known, told)
            self.worths(asked, known)
        self.assertGreater(many, 100)

    def text(self, asked, known, told, signs):
        if told in known:
            self.assertEqual((way_of(asked, told), read(asked, told)), known[told], (asked, told))
        else:
            self.fails(asked, known, told, signs)
        self.goes_on(asked, known, told)
        self.rests(asked, known, told)

    def fails(self, asked, known, told, signs):
        with self.assertRaises(FormError) as caught:
            read(asked, told)
        failing = caught.exception
        self.assertIs(type(failing), Fails)
        begin = told[:failing.place]
        self.assertEqual(failing.end, begin in known)
        if failing.place == len(told):
            self.assertFalse(failing.end)
        else:
            self.assertNotIn(told[failing.place], failing.wants)
        for sign in signs:
            self.assertEqual(sign in failing.wants, goes_on(asked, begin + sign) is not None)

    def goes_on(self, asked, known, told):
        more = goes_on(asked, told)
        behind_it = sorted([one for one in known if one.startswith(told)], key=by_length)
        if more is None or len(told + more) > SIGNS:
            self.assertEqual(behind_it, [], (asked, told))
        else:
            self.assertEqual(behind_it[0], told + more, (asked, told))
        if more is not None:
            self.assertIsNot(walked(asked, told + more, way_of(asked, told + more)), None)

    def rests(self, asked, known, told):
        table = dict(asked[1])
        rest = begun(asked)
        for sign in told:
            self.assertEqual(set(wants(asked, rest)), words.all_begin(table, rest))
            coming = behind(asked, rest, sign)
            self.assertEqual(coming, words.rest_behind(table, rest, sign))
            if coming is None:
                self.assertIs(goes_on(asked, told), None)
                return
            rest = coming
        self.assertEqual(may_end(asked, rest), told in known)

    def mended(self, asked, known, told):
        found = {}
        for place in range(len(told) + 1):
            found[told[:place] + told[place + 1:]] = True
            for sign in map(chr, range(32, 127)):
                found[told[:place] + sign + told[place:]] = True
                found[told[:place] + sign + told[place + 1:]] = True
        self.assertEqual(mends(asked, told), tuple(sorted([one for one in found if one in known], key=by_length)))

    def worths(self, asked, known):
        least = told_book(asked)
        self.assertTrue(is_book(least))
        self.assertEqual(verdict(least), ("let",))
        texts = {}
        for told in sorted(known, key=by_length):
            texts.setdefault(repr(known[told][1]), []).append(told)
        for alike in list(texts.values())[:40]:
            worth = known[alike[0]][1]
            self.assertEqual(tell(asked, worth), alike[0])
            self.assertEqual(read(least, alike[0]), worth)
            for told in alike[1:]:
                self.assertRaises(Fails, read, least, told)


if __name__ == "__main__":
    unittest.main()
