"""Put and led [18, 19, 3 (e)]."""

import unittest

from readtell.errors import NoWorth
from readtell.keeping import led, put
from readtell.looking import verdict
from readtell.reading import read
from readtell.spans import spans
from readtell.telling import tell
from readtell.worths import is_worth
from tests import descent
from tests.asking import OTHER_KINDS, Asking, snapshot
from tests.brute import walks_of
from tests.samples import (
    AB, B, BLANKS, BRACKETS, COMMA, COUNTS, EMPTY, LET_BOOKS, NUMBER, SPELT, SPELT_PICK, SUMS, TOLD,
    VALUES, WALKS, WORD, again, book, counted, either, row, skip, text,
)
from tests.test_walking import worths_beside

C = ("named", "c")
FILL = skip(again(("sign", "*-")))
ITEM = row(NUMBER, FILL)
LIST = again(ITEM, skip(row(COMMA, BLANKS)))
COUNT = counted(":", row(AB, FILL))
FILLED = skip(either(text("zz"), text("y")))
PICK = ("pick", (("one", 1), ("two", 2), ("aa", "x")))
TURNED = ("turned", row(NUMBER, FILL, AB), (((1, "a"), (2, "b")),))
CHOICE = either(row(NUMBER, FILL, AB), row(COMMA, FILL, NUMBER), FILL)


def items(*numbers):
    return tuple((number,) for number in numbers)


# Form, text, new worth, text put anew. B names a row with fillings, c an item.
PUT = (
    # One of a kind is told anew.
    (AB, "a", "b", "b"), (WORD, "aab", "b", "b"), (NUMBER, "10", 9, "9"), (NUMBER, "0", 10 ** 20, "1" + "0" * 20),
    (PICK, "one", "x", "aa"), (PICK, "aa", 2, "two"), (SPELT, "ab", "", ""), (SPELT, "", "ba", "ba"),
    (SPELT_PICK, "a1b1", "bb", "b1b1"), (EMPTY, "", (), ""), (FILL, "*-", (), "*-"), (text("ab"), "ab", (), "ab"),
    # Rows: part by part.
    (row(NUMBER, FILL, AB), "1**a", (1, "b"), "1**b"), (row(NUMBER, FILL, AB), "1**a", (2, "a"), "2**a"),
    (row(FILL, row(NUMBER, FILL), text(";"), FILL, row(AB, FILL)), "*1-;**a--", ((2,), ("a",)), "*2-;**a--"),
    (row(FILL, row(NUMBER, FILL), text(";"), FILL, row(AB, FILL)), "*1-;**a--", ((1,), ("b",)), "*1-;**b--"),
    (row(FILL, NUMBER, FILL, AB, FILL, text(".")), "*1*a*.", (0, "b"), "*0*b*."),
    # Choices of the same name, and of another one.
    (CHOICE, "1--a", ("aa", (5, "a")), "5--a"), (CHOICE, "1--a", ("ab", (7,)), ",7"), (CHOICE, "1--a", ("ac",), ""),
    (CHOICE, ",*7", ("ab", (8,)), ",*8"), (CHOICE, ",*7", ("aa", (8, "b")), "8b"), (CHOICE, "**", ("ac",), "**"),
    (CHOICE, "**", ("aa", (0, "a")), "0a"), (row(AB, CHOICE), "a,--2", ("a", ("ab", (3,))), "a,--3"),
    (either(FILLED, NUMBER), "1", ("aa",), "y"), (either(FILLED, NUMBER), "zz", ("aa",), "zz"),
    # Again: as many items.
    (LIST, "1*, 2-,\n3", items(1, 2, 3), "1*, 2-,\n3"), (LIST, "1*, 2-,\n3", items(1, 5, 3), "1*, 5-,\n3"),
    (LIST, "1*, 2-,\n3", items(3, 2, 1), "3*, 2-,\n1"), (LIST, "1*, 2-,\n3", items(4, 4, 4), "4*, 4-,\n4"),
    # More.
    (LIST, "1*, 2-,\n3**", items(1, 2, 3, 4), "1*, 2-,\n3**,4"),
    (LIST, "1*, 2-,\n3**", items(0, 1, 2, 3), "0,1*, 2-,\n3**"),
    (LIST, "1*, 2-,\n3**", items(1, 7, 2, 3), "1*,7, 2-,\n3**"),
    (LIST, "1*, 2-,\n3**", items(1, 2, 7, 8, 3), "1*, 2-,7,8,\n3**"),
    (LIST, "1*, 2-,\n3**", items(7, 8, 9, 6), "7*, 8-,\n9**,6"),
    (LIST, "1*, 2-,\n3**", items(7, 8, 9, 6, 3), "7*, 8-,9,6,\n3**"),
    (LIST, "1*, 2-,\n3**", items(1, 7, 8, 9), "1*, 7-,\n8**,9"), (LIST, "1*, 2-", items(5, 6, 7, 2), "5*,6,7, 2-"),
    (LIST, "", items(1, 2), "1,2"), (LIST, "1*", items(1, 2), "1*,2"), (LIST, "1*", items(2, 1), "2,1*"),
    (LIST, "1*", items(2, 3), "2*,3"),
    # Fewer.
    (LIST, "1*, 2-,\n3**", items(1, 2), "1*, 2-"), (LIST, "1*, 2-,\n3**", items(2, 3), "2-,\n3**"),
    (LIST, "1*, 2-,\n3**", items(1, 3), "1*,\n3**"), (LIST, "1*, 2-,\n3**", (), ""),
    (LIST, "1*, 2-,\n3**", items(2), "2*"),
    (LIST, "1*, 2-,\n3**", items(5, 3), "5*,\n3**"), (LIST, "1*, 2-,\n3**", items(1, 5), "1*, 5-"),
    (LIST, "1*, 2-,\n3**", items(5, 6), "5*, 6-"), (LIST, "1*, 2-,  3,\n4-", items(1, 9, 4), "1*, 9-,\n4-"),
    # The same item more than once.
    (LIST, "1*, 1-,\n1**", items(1, 1), "1*, 1-"), (LIST, "1*, 1-", items(1, 1, 1), "1*, 1-,1"),
    (LIST, "1*, 1-,\n2", items(1, 2), "1*,\n2"), (LIST, "2*, 1-,\n1", items(2, 1), "2*, 1-"),
    (LIST, "1*, 2-,\n1**", items(1), "1*"), (LIST, "1*, 2-", items(1, 2, 1, 2), "1*, 2-,1,2"),
    (LIST, "1*, 2-,\n1**", items(1, 1), "1*,\n1**"), (LIST, "2*, 1-", items(3, 1, 1), "3*,1, 1-"),
    # Without anything between, with a told text between, and bare items.
    (again(row(AB, FILL)), "a*b-", (("a",), ("b",), ("a",)), "a*b-a"), (again(row(AB, FILL)), "a*b-", (("b",),), "b-"),
    (again(row(AB, FILL), text(";")), "a*;b-", (("b",), ("a",), ("b",)), "b;a*;b-"),
    (again(FILLED, COMMA), "zz,y,zz", ((), ()), "zz,y"), (again(FILLED, COMMA), "zz,zz", ((), (), ()), "zz,zz,y"),
    (again(FILLED, COMMA), "zz", ((), ()), "zz,y"), (again(AB, FILLED), "azzb", ("a", "b", "a"), "azzbya"),
    # Counted: the count told anew.
    (COUNT, "2:a*b-", (("a",), ("b",)), "2:a*b-"), (COUNT, "2:a*b-", (("a",), ("a",)), "2:a*a-"),
    (COUNT, "2:a*b-", (("b",),), "1:b-"), (COUNT, "2:a*b-", (), "0:"), (COUNT, "0:", (("a",),), "1:a"),
    (COUNT, "2:a*b-", (("a",), ("a",), ("b",)), "3:a*ab-"), (COUNT, "2:a*b-", (("b",), ("a",), ("a",)), "3:b*a-a"),
    (COUNT, "9:" + "a*" * 9, (("a",),) * 10, "10:" + "a*" * 9 + "a"),
    (COUNT, "10:" + "a*" * 10, (("a",),) * 9, "9:" + "a*" * 9),
    (COUNT, "10:" + "a*" * 10, (), "0:"), (COUNT, "1:b*", (("b",),) * 99, "99:b*" + "b" * 98),
    (COUNT, "99:" + "a-" * 99, (("a",),) * 99, "99:" + "a-" * 99), (counted(":", EMPTY), "10:", ((),), "1:"),
    # Turned parts, by what the worths stand for.
    (TURNED, "1**a", (2, "b"), "1**a"), (TURNED, "1**a", (1, "a"), "2**b"), (TURNED, "1**a", (3, "a"), "3**a"),
    (TURNED, "3*a", (2, "b"), "1*a"), (("turned", NUMBER, ((0, 12),)), "7", 0, "12"),
    (("turned", LIST, (((), ((1,),)),)), "1*, 2-", (), "1*"), (("turned", LIST, (((),
    ((1,),)),)), "1*, 2-", ((1,),), ""),
    # Names, and names within others.
    (B, "1**a", (2, "a"), "2**a"), (row(B, text(";"), FILL, B), "1-a;*2**b", ((1, "b"), (2, "a")), "1-b;*2**a"),
    (again(C, text(";")), "1*;2-", ((1,), (2,), (3,)), "1*;2-;3"), (either(COMMA, C), "5**", ("ab", (6,)), "6**"),
)


class Put(Asking):
    def puts(self, asked, told, worth, anew):
        self.same(anew, put, asked, told, worth)
        self.assertEqual(snapshot(read(asked, anew)), snapshot(worth))
        self.same(told, put, asked, told, read(asked, told))

    def test_each_word(self):
        for form, told, worth, anew in PUT:
            asked = book(a=form, b=row(NUMBER, FILL, AB), c=ITEM)
            self.assertEqual(verdict(asked), ("let",), form)
            self.puts(asked, told, worth, anew)
            self.assertEqual(descent.put_by_words(asked, told, worth), anew)

    def test_within_others(self):
        for form, told, worth, anew in PUT:
            asked = book(a=row(FILL, text("<"), B, text(">"), again(row(text("<"), B, text(">")), FILL)), b=form)
            if "named" not in str(form) and verdict(asked) == ("let",):
                before = read(book(a=form), told)
                self.puts(asked, f"*<{told}>", (worth, ()), f"*<{anew}>")
                self.puts(asked, f"<{told}><{told}>*<{told}>", (before, ((before,),
                (worth,))), f"<{told}><{told}>*<{anew}>")
                self.puts(asked, f"-<{told}><{told}>*<{told}>", (worth, ((worth,),
                (before,))), f"-<{anew}><{anew}>*<{told}>")
                self.puts(asked, f"-<{told}><{told}>*<{told}>", (before, ((before,), (before,), (worth,))),
                        f"-<{told}><{told}>*<{told}><{tell(book(a=form), worth)}>")

    def test_whole_books(self):
        typed = '{"x" : [ 1,2 , 3 ] ,\n "y":yes }'
        worth = read(VALUES, typed)
        name, (rows,) = worth
        more = (name, (rows + ((("z", ()), ("aa", (7,))),),))
        self.puts(VALUES, typed, more, '{"x" : [ 1,2 , 3 ] ,\n "y":yes ,"z":7}')
        changed = (name, ((rows[0], (("y", ()), ("ab", ("no", ())))),))
        self.puts(VALUES, typed, changed, '{"x" : [ 1,2 , 3 ] ,\n "y":"no"}')
        thirty = ("ac", ((("aa", (1,)), ("aa", (30,)), ("aa", (3,))),))
        first = (name, ((("x", ()), thirty), rows[1]))
        self.refused(NoWorth, put, VALUES, typed, first)
        self.puts(VALUES, typed, (name, (((("x", ()), thirty), rows[1]),)), '{"x" : [ 1,30 , 3 ] ,\n "y":yes }')
        renamed = (name, (((("xx", ()), rows[0][1]), rows[1]),))
        self.puts(VALUES, typed, renamed, '{"xx" : [ 1,2 , 3 ] ,\n "y":yes }')
        self.puts(VALUES, typed, ("aa", (5,)), "5")
        self.puts(BRACKETS, "(()(()))", read(BRACKETS, "(()()(()))"), "(()()(()))")
        self.puts(COUNTS, "2!0!1!<a>", (), "0!")

    def test_the_own_worth_leaves_the_text(self):
        for asked, told, worth in TOLD:
            self.same(told, put, asked, told, worth)
        for form, told, _, worth in WALKS:
            if verdict(book(a=form)) == ("let",):
                self.same(told, put, book(a=form), told, worth)

    def test_what_was_put_reads_back(self):
        for asked in LET_BOOKS[::3]:
            known = [(told, worth) for told, _, worth in walks_of(asked, 3, 6)][:24]
            for told, _ in known[::2]:
                for _, worth in known[::3]:
                    anew = put(asked, told, worth)
                    self.assertEqual(read(asked, anew), worth)
                    self.assertEqual(anew, descent.put_by_words(asked, told, worth))

    def test_texts_that_do_not_read(self):
        for thing in ((), "a", None, [], True, "b", 7):
            self.fails(2, "c", False, put, book(a=text("abc")), "abd", thing)
            self.fails(1, "ab", True, put, book(a=WORD), "a1", thing)
            self.fails(0, "ab", False, put, book(a=WORD), "", thing)
            self.fails(3, "()", False, put, BRACKETS, "(()", thing)

    def test_what_is_no_worth(self):
        for form, told, worth, _ in PUT[::2]:
            asked = book(a=form, b=row(NUMBER, FILL, AB), c=ITEM)
            for thing in worths_beside(worth)[:20] + list(OTHER_KINDS):
                if not is_worth(asked, "a", thing):
                    self.refused(NoWorth, put, asked, told, thing)
        for thing in ((("a",),) * 100, [("a",)], (["a"],), (("a",), None), (True,)):
            self.refused(NoWorth, put, book(a=COUNT), "2:a*b-", thing)

    def test_long_and_deep_texts(self):
        told = ",".join(["1*", "2-", "3"] * 200)
        worth = items(*[1, 2, 3] * 200)
        anew = ",".join(["1*", "2-", "3"] * 100 + ["9"] + ["1*", "2-", "3"] * 100)
        self.puts(book(a=LIST), told, worth[:300] + items(9) + worth[300:], anew)
        deep = "(" * 24 + ")" * 24
        self.puts(BRACKETS, deep, read(BRACKETS, "(" * 23 + ")" * 23), "(" * 23 + ")" * 23)
        inner = "[ " * 20 + "1 " + "] " * 20
        changed = read(VALUES, inner.replace("1", "22"))
        self.puts(VALUES, inner, changed, inner.replace("1", "22"))

    def test_two_books_by_turns(self):
        one, other = book(a=row(B, COMMA, B), b=row(NUMBER, FILL)), book(a=row(B, COMMA, B), b=row(AB, FILL))
        for _ in range(2):
            self.same("1*,3-", put, one, "1*,2-", ((1,), (3,)))
            self.same("a*,a-", put, other, "a*,b-", (("a",), ("a",)))
            self.refused(NoWorth, put, one, "1*,2-", (("a",), ("a",)))
            self.fails(0, "ab", False, put, other, "1*,2-", ((1,), (3,)))


class PartsAlone(Asking):
    """A part of the worth changed changes just that part of the text."""

    BOOKS = (
        (VALUES, '{"x" : [ 1,2 , 3 ] ,\n "y":yes , "": [ {} ] } '),
        (book(a=row(FILL, LIST, text(";"), FILL, COUNT, TURNED)), "*1-, 2,\n 3*;*2:a*b-1**a"),
        (book(a=again(B, skip(row(COMMA, BLANKS))), b=row(CHOICE, text("."), SPELT)), "1--a.ab,  ,*7.,**.b"),
        (SUMS, "((2+3)*x)-5*(z)"),
    )
    OTHERS = {str: ("b", "yz", "a", "~", "+"), int: (0, 77)}

    def test_one_part_changed(self):
        for asked, told in self.BOOKS:
            worth = read(asked, told)
            found = spans(asked, told)
            changed = 0
            for path, (start, end) in found.items():
                for other in self.others(part_at(worth, path)):
                    new = with_part(worth, path, other)
                    if is_worth(asked, asked[0], new):
                        anew = put(asked, told, new)
                        self.assertEqual(read(asked, anew), new)
                        self.assertTrue(anew.startswith(told[:start]) and anew.endswith(told[end:]), (path, anew))
                        self.assertGreaterEqual(len(anew), start + len(told) - end)
                        changed += 1
            self.assertGreater(changed, 8)

    def test_two_parts_in_either_order(self):
        for asked, told in self.BOOKS:
            worth = read(asked, told)
            changes = []
            for path in spans(asked, told):
                for other in self.others(part_at(worth, path)):
                    if is_worth(asked, asked[0], with_part(worth, path, other)):
                        changes.append((path, other))
            both = 0
            for path, other in changes:
                for path2, other2 in changes:
                    if path[:len(path2)] != path2 and path2[:len(path)] != path:
                        one = with_part(worth, path, other)
                        two = with_part(worth, path2, other2)
                        new = with_part(one, path2, other2)
                        first = put(asked, put(asked, told, one), new)
                        self.assertEqual(first, put(asked, put(asked, told, two), new))
                        self.assertEqual(first, put(asked, told, new))
                        both += 1
            self.assertGreater(both, 8)

    def others(self, part):
        if isinstance(part, tuple):
            return [part + part[-1:], part[:-1], part[1:]] if part and not isinstance(part[0], str) else []
        return [other for other in self.OTHERS[type(part)] if other != part]


def part_at(worth, path):
    for step in path:
        worth = worth[step]
    return worth


def with_part(worth, path, part):
    if path == ():
        return part
    return worth[:path[0]] + (with_part(worth[path[0]], path[1:], part),) + worth[path[0] + 1:]


class Led(Asking):
    # Two books of the same texts, of which the names of choices and the turned worths are others.
    ONE = book(a=again(either(row(NUMBER, FILL), AB), skip(row(COMMA, BLANKS))))
    OTHER = book(a=B, b=again(("either", (("p", ("turned", row(NUMBER, FILL), (((1,), (2,)),))), ("q", C))),
                              skip(row(COMMA, BLANKS))), c=("turned", AB, (("a", "b"),)))

    def test_either_way_about(self):
        for told, one, other in (
                ("1*, a", (("aa", (1,)), ("ab", "a")), (("p", (2,)), ("q", "b"))), ("", (), ()),
                ("2-,\n7*,b", (("aa", (2,)), ("aa", (7,)), ("ab", "b")), (("p", (1,)), ("p", (7,)), ("q", "a")))):
            self.assertEqual(read(self.ONE, told), one)
            self.assertEqual(read(self.OTHER, told), other)
            self.same((told, other), led, self.ONE, self.OTHER, told, one)
            self.same((told, one), led, self.OTHER, self.ONE, told, other)
        self.same(("1*, b", (("p", (2,)), ("q", "a"))), led, self.ONE, self.OTHER, "1*, a", (("aa", (1,)), ("ab", "b")))
        self.same(("2*, a", (("aa", (2,)), ("ab", "a"))), led, self.OTHER, self.ONE, "1*, a", (("p", (1,)), ("q", "b")))
        self.same(("1*", (("p", (2,)),)), led, self.ONE, self.OTHER, "1*, a", (("aa", (1,)),))

    def test_of_itself(self):
        for asked, told, worth in TOLD:
            self.same((told, worth), led, asked, asked, told, worth)
        self.same(("1*, 3-", items(1, 3)), led, book(a=LIST), book(a=LIST), "1*, 2-", items(1, 3))

    def test_refused_as_put(self):
        for thing in ((("aa", (1,)),), None, "a"):
            self.fails(3, "\n 0123456789ab", False, led, self.ONE, self.OTHER, "1, ;", thing)
        for thing in (("p", (2,)), (("p", (2,)),), None, True, [], {}, "a", 0, (("aa", 1),)):
            self.refused(NoWorth, led, self.ONE, self.OTHER, "1", thing)
        for thing in ((("aa", (1,)),), None, (("p", (-1,)),)):
            self.refused(NoWorth, led, self.OTHER, self.ONE, "1", thing)

    def test_what_the_other_can_not_read(self):
        one, other = book(a=again(AB)), book(a=counted(":", AB))
        self.fails(0, "0123456789", False, led, one, other, "ab", ("a", "b"))
        self.fails(0, "", True, led, book(a=AB), book(a=EMPTY), "a", "b")
        shorter = book(a=row(AB, AB))
        self.same(("ab", ("a", "b")), led, one, shorter, "a", ("a", "b"))
        self.fails(2, "", True, led, one, shorter, "ab", ("a", "b", "b"))
        self.fails(1, "ab", False, led, one, shorter, "ab", ("a",))
        # What it could read before it was put anew doesn't matter, nor what it can't.
        self.refused(NoWorth, led, one, other, "ab", ("a", "c"))
        self.fails(0, "ab", True, led, one, other, "c", ("a", "c"))


if __name__ == "__main__":
    unittest.main()
