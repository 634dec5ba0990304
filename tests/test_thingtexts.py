"""Things written as texts [24]."""

import unittest

from readtell.errors import Fails
from readtell.thingtexts import read_thing, show_thing
from tests.asking import Asking, nested, snapshot
from tests.test_forms import SIGNS

FIGURES = "0123456789"
NINES = int("9" * 120)

# Things with their texts.
SHOWN = (
    (0, "0"), (1, "1"), (9, "9"), (10, "10"), (100, "100"), (907, "907"), (10 ** 119, "1" + "0" * 119), (NINES, "9" * 120),
    ("", '""'), ("a", '"a"'), (" ", '" "'), ("ab c", '"ab c"'), ('"', '"\\""'), ("\\", '"\\\\"'), ("\n", '"\\n"'), ("n", '"n"'),
    ("\\n", '"\\\\n"'), ("\\\"", '"\\\\\\""'), ("\n\\\"n", '"\\n\\\\\\"n"'), ("0", '"0"'), ("(1,2)", '"(1,2)"'), ("'", "\"'\""),
    ((), "()"), ((0,), "(0)"), (("",), '("")'), ((1, 2), "(1,2)"), ((1, "1", (), (1,)), '(1,"1",(),(1))'), (((), ()), "((),())"),
    ((((),),), "((()))"), (("a", ("b", ("c", 12, ()), 0)), '("a",("b",("c",12,()),0))'), ((0,) * 300, "(" + "0," * 299 + "0)"),
)
END = ("", True)
MORE = (",)", False)
NEXT = ("\"(" + FIGURES, False)
FIRST = ("\"()" + FIGURES, False)
STROKE = ("\"\\n", False)
WITHIN = (SIGNS[1:], False)

# Texts that are no things, where reading them fails, and what could stand there.
FAILING = (
    ("", 0, NEXT), (" 0", 0, NEXT), ("0 ", 1, END), ("00", 1, END), ("01", 1, END), ("-1", 0, NEXT), ("+1", 0, NEXT), ("1x", 1, (FIGURES, True)),
    ("1.0", 1, (FIGURES, True)), ("1,", 1, (FIGURES, True)), ("a", 0, NEXT), ("None", 0, NEXT), ("'a'", 0, NEXT), ('"', 1, WITHIN),
    ('"a', 2, WITHIN), ('"\n"', 1, WITHIN), ('"a\nb"', 2, WITHIN), ('"\\', 2, STROKE), ('"\\a"', 2, STROKE), ('"\\t"', 2, STROKE),
    ('"\\ "', 2, STROKE), ('"\\\n"', 2, STROKE), ('"\\"', 3, WITHIN), ('"a"b', 3, END), ('"a" ', 3, END), ('""""', 2, END),
    ("(", 1, FIRST), (")", 0, NEXT), ("())", 2, END), ("(()", 3, MORE), ("( )", 1, FIRST), ("(,)", 1, FIRST), ("(0,)", 3, NEXT),
    ("(0 ,1)", 2, MORE), ("(0, 1)", 3, NEXT), ("(0", 2, MORE), ("(1", 2, (")," + FIGURES, False)), ("(00)", 2, MORE), ("(0,,1)", 3, NEXT),
    ("(0;1)", 2, MORE), ("[0]", 0, NEXT), ("(0)(0)", 3, END), ("0,1", 1, END), ("((0)", 4, MORE), ('("a"b)', 4, MORE), ("()\n", 2, END), ("\n()", 0, NEXT),
    ("(1 )", 2, (")," + FIGURES, False)), ("\"\t\"", 1, WITHIN), ("(0,\"a" + chr(37) + "\")", 5, WITHIN), ("\xe4", 0, NEXT),
)


class Shown(Asking):
    def test_things(self):
        for thing, told in SHOWN:
            self.same(told, show_thing, thing)
            self.same(thing, read_thing, told)

    def test_each_sign(self):
        strokes = {'"': '\\"', "\\": "\\\\", "\n": "\\n"}
        for sign in SIGNS:
            for thing in (sign, "a" + sign + "b", sign * 3):
                told = '"' + "".join(strokes.get(one, one) for one in thing) + '"'
                self.same(told, show_thing, thing)
                self.same(thing, read_thing, told)

    def test_very_many_figures(self):
        for many in (121, 700, 3000, 6000):
            told = "7" + "0123456789" * (many // 10)
            thing = read_thing(told)
            self.assertIs(type(thing), int)
            self.assertEqual(thing % 10 ** 10, 123456789)
            self.assertEqual(thing // 10 ** (len(told) - 1), 7)
            self.assertEqual(show_thing(thing), told)

    def test_depths(self):
        for deep in (1, 2, 24, 80, 100, 400):
            self.same("(" * deep + "7" + ")" * deep, show_thing, nested(7, deep))
            self.same(nested(7, deep), read_thing, "(" * deep + "7" + ")" * deep) if deep <= 100 else None
            self.same("(" * deep + "(),1" + ")" * deep, show_thing, nested(((), 1), deep - 1))
        deep = read_thing("(" * 4000 + ")" * 4000)
        self.assertEqual(show_thing(deep), "(" * 4000 + ")" * 4000)

    def test_wide_ones(self):
        thing = tuple((at, str(at), ()) for at in range(400))
        told = "(" + ",".join(f'({at},"{at}",())' for at in range(400)) + ")"
        self.same(told, show_thing, thing)
        self.same(thing, read_thing, told)


class Failing(Asking):
    def test_texts_that_are_none(self):
        for told, place, (wants, end) in FAILING:
            self.fails(place, "".join(sorted(wants)), end, read_thing, told)

    def test_one_sign_otherwise_at_each_place(self):
        for told in ('("a\\n",(10,()),0,"")', '(((1)),("\\"","b"))', "12", '"\\\\n"'):
            for at in range(len(told) + 1):
                for sign in ("", *SIGNS):
                    self.as_it_should(told[:at] + sign + told[at:])
                    self.as_it_should(told[:at] + sign + told[at + 1:])

    def as_it_should(self, told):
        thing, failing = by_hand(told)
        if failing is None:
            self.assertEqual(snapshot(read_thing(told)), snapshot(thing))
            self.assertEqual(show_thing(thing), told)
        else:
            with self.assertRaises(Fails) as caught:
                read_thing(told)
            values = caught.exception
            self.assertEqual((values.place, values.wants, values.end), (failing[0], "".join(sorted(failing[1])), failing[2]), told)

    def test_cut_off(self):
        told = '("a\\n",(10,()),0,"")'
        for at in range(len(told)):
            self.refused(Fails, read_thing, told[:at])
            self.refused(Fails, read_thing, told + told[:at + 1])


def by_hand(told):
    """The thing and None, or None and where reading fails, as a descent has it."""
    place = 0
    done = [[]]
    wanted, end = NEXT[0], False
    while True:
        if end and len(done) == 1 and place == len(told):
            return done[0][0], None
        sign = told[place:place + 1]
        if sign == "" or sign not in wanted:
            return None, (place, wanted, end)
        place += 1
        wanted, end = ",)", False
        if sign == '"':
            text, place, failing = text_by_hand(told, place)
            if failing:
                return None, failing
            done[-1].append(text)
        elif sign in FIGURES:
            start = place - 1
            while sign != "0" and told[place:place + 1] and told[place] in FIGURES:
                place += 1
            done[-1].append(int(told[start:place]))
            wanted += "" if sign == "0" else FIGURES
        elif sign == "(":
            done.append([])
            wanted = FIRST[0]
        elif sign == ")":
            inner = tuple(done.pop())
            done[-1].append(inner)
        else:
            wanted = NEXT[0]
        if len(done) == 1:
            wanted, end = wanted.replace(",", "").replace(")", ""), True


def text_by_hand(told, place):
    text = ""
    while True:
        sign = told[place:place + 1]
        if sign == "" or sign not in SIGNS[1:]:
            return None, place, (place, SIGNS[1:], False)
        place += 1
        if sign == '"':
            return text, place, None
        if sign == "\\":
            sign = told[place:place + 1]
            if sign == "" or sign not in '"\\n':
                return None, place, (place, '"\\n', False)
            place += 1
            sign = "\n" if sign == "n" else sign
        text += sign


if __name__ == "__main__":
    unittest.main()
