"""The helpers of changing and folding, and least texts of rests."""

import unittest

from readtell.changing import changed, renamed, with_inner
from readtell.folding import folded
from readtell.forms import inner_forms, is_form
from readtell.papers import Paper
from tests.asking import nested
from tests.samples import A, AB, COMMA, NUMBER, again, counted, either, row, skip
from tests.test_forms import FORMS, within


def parts(whole):
    return list(whole) if isinstance(whole, tuple) else []


class Folding(unittest.TestCase):
    def test_the_innermost_first(self):
        met = []
        told = folded((1, (2, ()), 3), parts, lambda part, inner: met.append(part) or (part, inner))
        self.assertEqual(met, [1, 2, (), (2, ()), 3, (1, (2, ()), 3)])
        self.assertEqual(told, ((1, (2, ()), 3), [(1, []), ((2, ()), [(2, []), ((), [])]), (3, [])]))

    def test_depth(self):
        self.assertEqual(folded(nested(0, 20000), parts, lambda _, inner: sum(inner) + 1), 20001)

    def test_changed_forms(self):
        for form in FORMS:
            for outer in (form,) + within(form):
                self.assertEqual(changed(outer, lambda part, before: part), outer)
                self.assertEqual(with_inner(outer, inner_forms(outer)), outer)
        many = row(A, skip(A), again(A, skip(A)), counted(":", A), either(A, COMMA), ("turned", A, ((0, 1),)))
        other = changed(many, lambda part, before: NUMBER if before == A else part)
        self.assertEqual(other, row(NUMBER, skip(NUMBER), again(NUMBER, skip(NUMBER)), counted(":", NUMBER), either(NUMBER, COMMA),
                                    ("turned", NUMBER, ((0, 1),))))
        self.assertTrue(is_form(other))
        self.assertEqual(renamed(many, {"a": "b"}), eval(repr(many).replace("('named', 'a')", "('named', 'b')")))
        self.assertEqual(renamed(AB, {}), AB)


class Papers(unittest.TestCase):
    def test_cuts(self):
        paper = Paper()
        for pair in (((1,), (2,)), ((1, 3), (4,)), ((5,), ()), ((), (6, 6)), ((), ())):
            paper.take(pair)
        for pair in (((), ()), ((1,), (2,)), ((1, 3), (4,)), ((1, 1, 3), (2, 4)), ((1, 3, 1), (4, 2)), ((5,), ()), ((5, 5), ()), ((), (6, 6)),
                     ((5, 1, 5), (2,)), ((1,), (6, 6, 2)), ((1, 5), (2, 6, 6)), ((1, 3, 5, 1), (6, 6, 4, 6, 6, 2, 6, 6))):
            self.assertIs(paper.cuts(pair), True, pair)
        for pair in (((1,), ()), ((), (2,)), ((1,), (4,)), ((1, 3), (2,)), ((1, 3), (2, 4)), ((), (6,)), ((1,), (6, 2, 6)), ((3, 1), (4,)), ((1, 5, 3), (4,)), ((7,), (7,))):
            self.assertIs(paper.cuts(pair), False, pair)
        self.assertIs(Paper().cuts(((), ())), True)
        self.assertIs(Paper().cuts(((1,), (1,))), False)


if __name__ == "__main__":
    unittest.main()
