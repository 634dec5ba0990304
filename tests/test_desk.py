"""A desk [26]."""

import unittest

from readtell.booktexts import read_book, show_book
from readtell.counting import how_many
from readtell.desk import Desk
from readtell.errors import Fails, FormError, NoBook, NoKept, NoLine, NoText, NotLet, NoWorth
from readtell.going import goes_on, mends
from readtell.holding import held
from readtell.keeping import put
from readtell.numbering import number_of, text_at
from readtell.reading import read
from readtell.shortening import shorter
from readtell.telling import tell
from tests.asking import Asking, is_plain
from tests.book_by_hand import book_text, quoted, thing_text
from tests.samples import (
    A, AB, B, BRACKETS, COMMA, COUNTS, LET_BOOKS, NUMBER, SUMS, TOLD, VALUES, again, book, either, row,
    skip, text,
)
from tests.test_booktexts import BOOKS, FAILING, NO_BOOKS
from tests.test_forms import SIGNS
from tests.test_looking import CLASHES

LIST = book(a=row(text("["), again(B, skip(row(COMMA, ("named", "c")))), text("]")), b=either(NUMBER, A), c=again(text(" ")))
LIST_TEXT = 'of a\na=r(t"[",a(mb,k(r(t",",mc))),t"]")\nb=e(aa:n,ab:ma)\nc=a(t" ")'
TEXTS = book(a=("spelt", ("sign", SIGNS)))
WORDS_WITH_REST = ("read", "tell", "try", "more", "count", "at", "mends", "number", "keep", "change", "against")
WORDS_ALONE = ("worth", "kept", "short")
NOT_LET = ('of a\na=e(x:t"a",y:t"a")', "of a\na=ma", 'of a\na=a(r())', 'of a\na=r(a(s"ab"),s"ab")', "of a\na=r(ma,mb)\nb=n")


def values(refused):
    return (type(refused), [vars(refused)[name] for name in sorted(vars(refused))])


class Desks(Asking):
    def says(self, desk, line, wanted):
        answer = desk.say(line)
        self.assertIs(type(answer), str)
        self.assertEqual(answer, wanted, line)

    def both(self, desk, line, wanted):
        """Asked twice."""
        self.says(desk, line, wanted)
        self.says(desk, line, wanted)

    def no(self, desk, line, refusal, *told):
        for _ in range(2):
            with self.assertRaises(FormError) as caught:
                desk.say(line)
            self.assertIs(type(caught.exception), refusal, line)
            if told:
                failing = caught.exception
                self.assertEqual((failing.place, failing.wants, failing.end), told, line)

    def no_desk(self, refusal, told):
        for _ in range(2):
            with self.assertRaises(FormError) as caught:
                Desk(told)
            self.assertIs(type(caught.exception), refusal, told)
        return caught.exception


class Words(Desks):
    def test_read(self):
        desk = Desk(LIST_TEXT)
        self.both(desk, "read []", "(())")
        self.both(desk, "read [1,  20,[3]]", '((("aa",1),("aa",20),("ab",((("aa",3))))))')
        self.no(desk, "read ", Fails, 0, "[", False)
        self.no(desk, "read [1", Fails, 2, ",0123456789]", False)
        self.no(desk, "read  []", Fails, 0, "[", False)
        self.no(desk, "read [] ", Fails, 2, "", True)
        self.no(desk, "read []\n", Fails, 2, "", True)
        self.no(desk, "read", NoLine)
        desk = Desk(show_book(TEXTS))
        for told in ("", " ", "  ", "\n", "a\nb", " a ", 'a"b\\', "read x", "\n\n ", SIGNS):
            self.both(desk, "read " + told, quoted(told))

    def test_tell(self):
        desk = Desk(LIST_TEXT)
        self.both(desk, "tell (())", "\"[]\"")
        self.both(desk, 'tell ((("aa",1),("aa",20)))', '"[1,20]"')
        for thing in ("0", "()", '"a"', '((("aa","1")))', '(("aa",1))', '((("ac",1)))', "((),())"):
            self.no(desk, "tell " + thing, NoWorth)
        for bad in ("", " ", " (())", "(()) ", "(()", "(01)", "[]", "a", "(())x", '"a', "(1,)", "( )", "(())\n"):
            self.no(desk, "tell " + bad, NoLine)
        self.no(desk, "tell", NoLine)
        desk = Desk(show_book(TEXTS))
        self.both(desk, 'tell "a\\n\\"\\\\ b"', '"a\\n\\"\\\\ b"')
        self.both(desk, 'tell ""', '""')
        self.no(desk, 'tell "\n"', NoLine)
        self.no(desk, "tell 7", NoWorth)

    def test_try(self):
        desk = Desk(LIST_TEXT)
        self.both(desk, "try [1, 2]", "reads")
        self.both(desk, "try ", 'fails 0 "[" no')
        self.both(desk, "try [1", 'fails 2 ",0123456789]" no')
        self.both(desk, "try []]", 'fails 2 "" yes')
        self.both(desk, "try [1, x", 'fails 4 " 0123456789[" no')
        self.no(desk, "try", NoLine)
        desk = Desk(show_book(book(a=again(("sign", "\n\"\\"), text("a ")))))
        self.both(desk, "try ", "reads")
        self.both(desk, "try \n", "reads")
        self.both(desk, "try x", 'fails 0 "\\n\\"\\\\" yes')
        self.both(desk, "try \na", 'fails 2 " " no')
        self.both(desk, "try \n \n", 'fails 1 "a" yes')
        for told in ("[", "]", "[0", "[00", "[[[]", "1"):
            desk = Desk(LIST_TEXT)
            with self.assertRaises(Fails) as caught:
                read(LIST, told)
            failing = caught.exception
            end = "yes" if failing.end else "no"
            self.both(desk, "try " + told, f"fails {failing.place} {quoted(failing.wants)} {end}")

    def test_more(self):
        desk = Desk(LIST_TEXT)
        for told, more in (("", '"[]"'), ("[", '"]"'), ("[1", '"]"'), ("[1,", '"0]"'), ("[1, ", '"0]"'), ("[[", '"]]"'), ("[]", '""'), ("x", "none"), ("[]]", "none"), (" ", "none")):
            self.both(desk, "more " + told, more)
        self.no(desk, "more", NoLine)
        desk = Desk(show_book(book(a=text("a\n\"b"))))
        self.both(desk, "more ", '"a\\n\\"b"')
        self.both(desk, "more a", '"\\n\\"b"')
        self.both(desk, "more a\n", '"\\"b"')

    def test_count(self):
        desk = Desk(LIST_TEXT)
        self.both(desk, "count 0", "0")
        self.both(desk, "count 1", "0 0")
        self.both(desk, "count 4", "0 0 1 10 91")
        self.both(desk, "count 24", " ".join(str(many) for many in how_many(LIST, "", 24)))
        for bad in ("", " ", "25", "99", "00", "01", "024", "-1", "+1", "1.0", " 1", "1 ", "a", "1a", "1\n", "1000000000000", "12345678901234567890", '"1"', "1 2", "\xb2", "\u0661"):
            self.no(desk, "count " + bad, NoLine)
        self.no(desk, "count", NoLine)
        self.both(Desk(show_book(TEXTS)), "count 24", " ".join(str(95 ** many) for many in range(25)))

    def test_at(self):
        desk = Desk(LIST_TEXT)
        for k in range(30):
            self.both(desk, f"at {k}", quoted(text_at(LIST, k, 24)))
        few = Desk(show_book(book(a=again(COMMA))))
        self.both(few, "at 0", '""')
        self.both(few, "at 24", quoted("," * 24))
        for k in ("25", "999999999999", "100000000000"):
            self.no(few, "at " + k, NoText)
        for bad in ("", " ", "00", "01", "-1", "+1", "1000000000000", "0000000000000", "1234567890123", "9" * 30, " 1", "1 ", "x", "1\n", "0x1", "1e3", "\u0661"):
            self.no(few, "at " + bad, NoLine)
        self.no(few, "at", NoLine)
        many = Desk(show_book(TEXTS))
        self.both(many, "at 999999999999", quoted(text_at(TEXTS, 999999999999, 24)))
        self.both(many, "at 1", '"\\n"')
        self.no(Desk(show_book(book(a=text("a")))), "at 1", NoText)
        self.no(Desk(show_book(book(a=text("a" * 25)))), "at 0", NoText)

    def test_mends(self):
        desk = Desk(LIST_TEXT)
        for told in ("", "[", "]", "[1", "[1,]", "[,1]", "[1;2]", "x", "[[]", "1", "[1  ]", "[1, 2,]]", "xx", "[1]]"):
            found = mends(LIST, told)
            self.both(desk, "mends " + told, " ".join(quoted(one) for one in found) if found else "-")
        self.both(desk, "mends [", '"[]"')
        self.both(desk, "mends xx", "-")
        self.both(desk, "mends ", "-")
        self.both(desk, "mends []", "reads")
        self.both(desk, "mends [1, 2]", "reads")
        self.no(desk, "mends", NoLine)
        self.both(Desk(show_book(book(a=either(text("\n"), text('"'), text("ab"))))), "mends ", '"\\n" "\\""')
        self.both(Desk(show_book(book(a=either(text("\n"), text('"'), text("ab"))))), "mends b", '"\\n" "\\"" "ab"')
        self.both(Desk(show_book(book(a=again(COMMA)))), "mends ", "reads")

    def test_number(self):
        desk = Desk(LIST_TEXT)
        for told in ("[]", "[0]", "[9]", "[[]]", "[1,2]", "[1, 2]", "[1,[2,3], 0]"):
            self.both(desk, "number " + told, str(number_of(LIST, told)))
        self.both(desk, "number []", "0")
        self.no(desk, "number ", Fails, 0, "[", False)
        self.no(desk, "number [x", Fails, 1, "0123456789[]", False)
        self.no(desk, "number", NoLine)
        self.both(Desk(show_book(TEXTS)), "number ", "0")
        self.both(Desk(show_book(TEXTS)), "number \n", "1")
        self.both(Desk(show_book(TEXTS)), "number " + "~" * 24, str(number_of(TEXTS, "~" * 24)))

    def test_short(self):
        for asked in LET_BOOKS[:20] + (SUMS, COUNTS, VALUES):
            self.both(Desk(show_book(asked)), "short", show_book(shorter(asked)))
        desk = Desk('of c\na=r(t"x",k(t"y"),n)\nb=mc\nc=md\nd=r(ma,t";",me)\ne=r(t"xy",n)\nf=n')
        answer = desk.say("short")
        self.assertEqual(answer, book_text(read_book(answer)))
        self.assertEqual(len(read_book(answer)[1]), 2)
        other = Desk(answer)
        for line in ("short", "count 9", "read xy1;xy20", "at 3", "try xy1;x", "more xy", "tell ((1),(2))"):
            self.says(other, line, desk.say(line))
        for bad in ("short ", "short  ", "short x", "short\n", " short"):
            self.no(desk, bad, NoLine)

    def test_against(self):
        desk = Desk(LIST_TEXT)
        self.both(desk, "against " + LIST_TEXT, "alike")
        self.both(desk, 'against of x\nx=r(t"[",a(my,k(r(t",",mz))),t"]")\ny=e(aa:mx,no:n)\nz=ls" "', "alike")
        self.both(desk, "against of a\na=t\"[]\"", 'parts "[0]"')
        self.both(desk, "against of a\na=n", 'parts "0"')
        self.both(desk, "against " + show_book(TEXTS), 'parts ""')
        self.both(Desk(show_book(TEXTS)), 'against of a\na=a(s"a")', 'parts "\\n"')
        self.both(Desk(show_book(book(a=text('"\\')))), "against of a\na=t\"\\\"\"", 'parts "\\""')
        for told, place, wants, end in FAILING:
            self.no(desk, "against " + told, Fails, place, "".join(sorted(wants)), end)
        for told in NO_BOOKS:
            self.no(desk, "against " + told, NoBook)
        for told in NOT_LET:
            self.no(desk, "against " + told, NotLet)
        for told in ("against", "against", "against\n" + LIST_TEXT, "against\nof a"):
            self.no(desk, told, NoLine)
        self.no(desk, "against  " + LIST_TEXT, Fails, 0, "o", False)
        self.no(desk, "against " + LIST_TEXT + "\n", Fails, len(LIST_TEXT) + 1, "abcdefghijklmnopqrstuvwxyz", False)

    def test_against_goes_on_from_100_pairs(self):
        # One pair of rests comes of each beginning, and the last one tells.
        for many in (1, 50, 99, 100):
            one, other = book(a=row(*[AB] * many)), book(a=row(*[AB] * (many - 1), ("sign", "abc")))
            told = f'parts "{"a" * (many - 1)}c"'
            self.both(Desk(show_book(one)), "against " + show_book(other), told)
            self.both(Desk(show_book(other)), "against " + show_book(one), told)
        for many in (101, 102, 130):
            one, other = book(a=row(*[AB] * many)), book(a=row(*[AB] * (many - 1), ("sign", "abc")))
            self.assertEqual(held(one, other, many)[0], "parts")
            self.both(Desk(show_book(one)), "against " + show_book(other), held(one, other, 100)[0])
        for one in (VALUES, SUMS, COUNTS, BRACKETS, LIST):
            for other in (VALUES, SUMS, COUNTS, BRACKETS, LIST):
                answer = held(one, other, 100)
                wanted = answer[0] + (" " + quoted(answer[1]) if answer[0] == "parts" else "")
                self.assertEqual(Desk(show_book(one)).say("against " + show_book(other)), wanted)


class Kept(Desks):
    def test_nothing_is_kept(self):
        desk = Desk(LIST_TEXT)
        for line in ("worth", "kept", "change (())", "change 0"):
            self.no(desk, line, NoKept)
        for line in ("change ", "change", "change (", "change  ()"):
            self.no(desk, line, NoLine)
        self.no(desk, "keep [1", Fails, 2, ",0123456789]", False)
        for line in ("worth", "kept", "change (())"):
            self.no(desk, line, NoKept)

    def test_keep_and_change(self):
        desk = Desk(LIST_TEXT)
        self.both(desk, "keep [1,  2, [3]]", "ok")
        self.both(desk, "kept", '"[1,  2, [3]]"')
        self.both(desk, "worth", thing_text(read(LIST, "[1,  2, [3]]")))
        self.says(desk, 'change ((("aa",1),("aa",5),("ab",((("aa",3))))))', "ok")
        self.both(desk, "kept", '"[1,  5, [3]]"')
        self.both(desk, "worth", thing_text(read(LIST, "[1,  5, [3]]")))
        self.says(desk, 'change ((("aa",1),("ab",((("aa",3))))))', "ok")
        self.both(desk, "kept", quoted(put(LIST, "[1,  5, [3]]", ((("aa", 1), ("ab", ((("aa", 3),),))),))))
        self.says(desk, 'change ((("aa",7),("aa",1),("ab",((("aa",3))))))', "ok")
        before = desk.say("kept")
        # What is refused changes nothing.
        self.no(desk, "change 7", NoWorth)
        self.no(desk, "change (())x", NoLine)
        self.no(desk, "change ", NoLine)
        self.no(desk, "keep [", Fails, 1, "0123456789[]", False)
        self.no(desk, "keep", NoLine)
        self.no(desk, "kept ", NoLine)
        self.no(desk, "worth ", NoLine)
        self.no(desk, "worth x", NoLine)
        self.no(desk, "against of a\na=ma", NotLet)
        self.both(desk, "kept", before)
        self.says(desk, "keep []", "ok")
        self.both(desk, "kept", '"[]"')
        self.both(desk, "worth", "(())")

    def test_other_lines_keep_nothing(self):
        desk = Desk(LIST_TEXT)
        self.says(desk, "keep [1, 2]", "ok")
        for line in ("read [3]", "tell (())", "try [4]", "more [", "count 3", "at 5", "mends [", "number [6]", "short", "against of a\na=n"):
            desk.say(line)
            self.both(desk, "kept", '"[1, 2]"')

    def test_the_empty_text_is_kept(self):
        desk = Desk(show_book(TEXTS))
        self.no(desk, "kept", NoKept)
        self.says(desk, "keep ", "ok")
        self.both(desk, "kept", '""')
        self.both(desk, "worth", '""')
        self.says(desk, 'change "a\\nb"', "ok")
        self.both(desk, "kept", '"a\\nb"')
        self.says(desk, 'change ""', "ok")
        self.both(desk, "kept", '""')
        self.says(desk, "keep \n \"", "ok")
        self.both(desk, "kept", '"\\n \\""')

    def test_as_put_has_it(self):
        for asked, told, worth in TOLD:
            desk = Desk(show_book(asked))
            for other, more, _ in TOLD:
                if other == asked:
                    self.says(desk, "keep " + more, "ok")
                    self.says(desk, "change " + thing_text(worth), "ok")
                    self.both(desk, "kept", quoted(put(asked, more, worth)))
                    self.both(desk, "worth", thing_text(worth))


class Lines(Desks):
    def test_unknown_lines(self):
        desk = Desk(LIST_TEXT)
        for line in ("", " ", "  ", "\n", "x", "reads", "rea", "Read []", "READ []", " read []", "\nread []", "read\n[]", "read[]", "read\t[]", "tells (())", "help", "keep[]",
                     "book", "quit", "_read []", "worth\n", "kept\n", "short\n", "0", "say read []", "read: []", "counts 3"):
            self.no(desk, line, NoLine)

    def test_the_blank_behind_a_word(self):
        desk = Desk(LIST_TEXT)
        desk.say("keep []")
        for word in WORDS_WITH_REST:
            self.no(desk, word, NoLine)
            self.no(desk, word + "\n", NoLine)
            self.no(desk, word + "x", NoLine)
        for word in WORDS_ALONE:
            desk.say(word)
            for more in (" ", "  ", " x", " []", "\n", "x", " \n"):
                self.no(desk, word + more, NoLine)

    def test_long_lines(self):
        desk = Desk(LIST_TEXT)
        for many in (2000, 6000):
            told = "[" + ",".join(["1"] * many) + "]"
            self.assertEqual(desk.say("try " + told), "reads")
            self.assertEqual(desk.say("read " + told), "((" + ",".join(['("aa",1)'] * many) + "))")
            self.assertEqual(desk.say("keep " + told), "ok")
            self.assertEqual(desk.say("kept"), f'"{told}"')
            self.assertEqual(desk.say("more " + told[:-1]), '"]"')
            self.assertEqual(desk.say("try " + "[" * many), f'fails {many} "0123456789[]" no')
            self.assertEqual(desk.say("more " + "[" * many), '"' + "]" * many + '"')
            self.no(desk, "tell " + "(" * many, NoLine)
            self.no(desk, "tell " + "(" * many + ")" * many, NoWorth)
            self.no(desk, "against " + "of a\na=" + "k(" * many, Fails, 7 + 2 * many, "aceklmnprstuw", False)
            self.no(desk, "x" * many, NoLine)
            self.no(desk, "count " + "1" * many, NoLine)
            self.no(desk, "at " + "1" * many, NoLine)
        deep = "[" * 700 + "]" * 700
        shown = desk.say("read " + deep)
        self.assertEqual(desk.say("tell " + shown), quoted(deep))
        self.assertEqual(desk.say("keep " + deep), "ok")
        self.assertEqual(desk.say("change " + shown), "ok")
        self.assertEqual(desk.say("kept"), quoted(deep))

    def test_deep_books(self):
        nests = (
            ("k(" * 600, "n", ")" * 600), ("k(" * 600, 't"a"', ")" * 600), ("r(" * 80, "n", ")" * 80), ("e(x:" * 80, "n", ")" * 80),
            ("u(" * 200, "n", ",0=1)" * 200), ("r(" * 40 + "k(" * 300, "n", ")" * 340),
        )
        for begin, inner, end in nests:
            told = "of a\na=" + begin + inner + end
            desk = Desk(told)
            short = desk.say("short")
            self.assertEqual(Desk(short).say("short"), short)
            self.assertEqual(desk.say("against " + short), "alike")
            self.assertEqual(desk.say("against of a\na=t\"zz\""), 'parts "0"' if inner == "n" else 'parts "a"')
            self.assertEqual(desk.say("more "), '"0"' if inner == "n" else '"a"')
            self.assertEqual(desk.say("try x"), 'fails 0 "0123456789" no' if inner == "n" else 'fails 0 "a" no')
            self.assertEqual(desk.say("count 1"), "0 10" if inner == "n" else "0 1")

    def test_the_same_as_the_functions(self):
        for asked, told, worth in TOLD:
            desk = Desk(book_text(asked))
            self.both(desk, "read " + told, thing_text(worth))
            self.both(desk, "tell " + thing_text(worth), quoted(tell(asked, worth)))
            self.both(desk, "try " + told, "reads")
            self.both(desk, "more " + told[:-1], quoted(goes_on(asked, told[:-1])))
            self.both(desk, "count 6", " ".join(str(many) for many in how_many(asked, "", 6)))
            self.both(desk, "at 3", quoted(text_at(asked, 3, 24)))
            if len(told) <= 24:
                self.both(desk, "number " + told, str(number_of(asked, told)))
            spoilt = told[:-1] + "?"
            if len(spoilt) <= 30:
                self.both(desk, "mends " + spoilt, " ".join(quoted(one) for one in mends(asked, spoilt)) or "-")


class TwoDesks(Desks):
    def test_led_by_turns(self):
        one, other = Desk(LIST_TEXT), Desk(show_book(TEXTS))
        same = Desk(LIST_TEXT)
        self.says(one, "keep [1]", "ok")
        self.no(other, "kept", NoKept)
        self.no(same, "worth", NoKept)
        self.says(other, "keep [2", "ok")
        self.says(same, "keep [3, 4]", "ok")
        self.both(one, "kept", '"[1]"')
        self.both(other, "kept", '"[2"')
        self.says(one, 'change ((("aa",1),("aa",9)))', "ok")
        self.both(one, "kept", '"[1,9]"')
        self.both(same, "kept", '"[3, 4]"')
        self.both(other, "worth", '"[2"')
        self.no(same, "keep [", Fails, 1, "0123456789[]", False)
        self.both(same, "kept", '"[3, 4]"')

    def test_no_desks(self):
        for told, place, wants, end in FAILING:
            failing = self.no_desk(Fails, told)
            self.assertEqual((failing.place, failing.wants, failing.end), (place, "".join(sorted(wants)), end))
        for told in NO_BOOKS:
            self.no_desk(NoBook, told)
        for told in NOT_LET:
            self.no_desk(NotLet, told)
        for form in CLASHES:
            self.no_desk(NotLet, book_text(book(a=form)))

    def test_desks_of_all_books(self):
        for asked in LET_BOOKS:
            desk = Desk(book_text(asked))
            answers = [desk.say("count 5"), desk.say("short"), desk.say("more "), desk.say("try \n!")]
            self.assertTrue(is_plain(tuple(answers)))
            self.assertEqual(answers, [desk.say("count 5"), desk.say("short"), desk.say("more "), desk.say("try \n!")])
        for told, asked in BOOKS:
            if told.startswith("of abcdefgh"):
                self.says(Desk(told), "read 7", "7")

    def test_names_that_are_not_met(self):
        desk = Desk("of a\na=n\nb=mb\nc=a(r())")
        self.both(desk, "read 12", "12")
        self.both(desk, "short", "of a\na=n")
        self.both(desk, "against of z\nz=n", "alike")


if __name__ == "__main__":
    unittest.main()
