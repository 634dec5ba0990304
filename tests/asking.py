"""How the tests ask: each answer twice, of just the plain kinds, and nothing handed in is changed."""

import unittest

from readtell.errors import Fails


class Odd:
    """A thing of a kind of its own, which can't be compared, measured, tested or hashed."""

    def __eq__(self, other):
        raise AssertionError("compared")

    __hash__ = None

    def __bool__(self):
        raise AssertionError("tested")

    def __len__(self):
        raise AssertionError("measured")


# Things of any kind, none of which is a name, a thing, a form, a book, a worth or a way.
OTHER_KINDS = (
    None, True, False, -1, -10 ** 30, 1.0, 0.0, float("nan"), 1j, b"", b"a", bytearray(b"a"),
    [], ["a"], [("text", "a")], {}, {"a": 1}, set(), {"a"}, frozenset(), object(), Odd(), Odd, len,
    range(2), iter(()), ..., NotImplemented, ValueError("a"), "\t", "\r", "\x00", "\x7f", "\xe4", "a\u2028",
    "\ud800", chr(37), "a" + chr(37), memoryview(b"a"), lambda: 0, (None,), ([],), (True,), (-1,),
)


def nested(thing, deep):
    """The thing within so many tuples."""
    for _ in range(deep):
        thing = (thing,)
    return thing


class Asking(unittest.TestCase):
    def told(self, function, *handed):
        """What the function tells, asked twice."""
        before = snapshot(handed)
        answer = function(*handed)
        again = function(*handed)
        self.assertEqual(snapshot(answer), snapshot(again))
        self.assertEqual(before, snapshot(handed))
        self.assertTrue(is_plain(answer), answer)
        return answer

    def refused(self, refusal, function, *handed):
        """Refused with just this refusal, asked twice; its values where it has any."""
        before = snapshot(handed)
        values = []
        for _ in range(2):
            with self.assertRaises(refusal) as caught:
                function(*handed)
            self.assertIs(type(caught.exception), refusal)
            values.append(tuple(vars(caught.exception).values()))
        self.assertEqual(snapshot(values[0]), snapshot(values[1]))
        self.assertEqual(before, snapshot(handed))
        self.assertTrue(is_plain(values[0]), values[0])
        return values[0]

    def fails(self, place, wants, end, function, *handed):
        """Refused with Fails, with just these values."""
        self.assertEqual(snapshot((place, wants, end)), snapshot(self.refused(Fails, function, *handed)), handed)

    def yes(self, function, *handed):
        self.assertIs(self.told(function, *handed), True, handed)

    def no(self, function, *handed):
        self.assertIs(self.told(function, *handed), False, handed)

    def same(self, wanted, function, *handed):
        """The function tells just this, of just these kinds."""
        self.assertEqual(snapshot(wanted), snapshot(self.told(function, *handed)), handed)


def is_plain(answer):
    if type(answer) is tuple:
        return all(is_plain(part) for part in answer)
    return answer is None or type(answer) in (bool, int, str)


def snapshot(x):
    """What x is by now, so that two are the same just where kinds and parts are."""
    if isinstance(x, (tuple, list)):
        return (type(x).__name__, [snapshot(part) for part in x])
    if isinstance(x, dict):
        return ("dict", [(snapshot(key), snapshot(x[key])) for key in x])
    return (type(x).__name__, repr(x))
