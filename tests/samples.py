"""Let books for the tests, with texts of theirs and the worths of these."""

from tests.test_books import A, book
from tests.test_forms import NUMBER, SIGNS
from tests.test_looking import AB, COMMA, EMPTY, LET, MAYBE, PICK, SPELT, SPELT_PICK, WORD
from tests.test_looking import again, counted, either, row, skip, text
from tests.test_walking import WALKS

B = ("named", "b")
BLANKS = skip(again(("sign", "\n ")))
LETTERS = "".join(sign for sign in SIGNS if sign not in '\n"\\')
QUOTED = tuple((sign, sign) for sign in LETTERS) + (("\\\"", "\""), ("\\\\", "\\"), ("\\n", "\n"))
NAMES = ("apple", "pear")

# Values as many programs write them, with blanks that tell nothing.
VALUES = ("value", (
    ("blanks", BLANKS),
    ("list", row(text("["), BLANKS, again(("named", "value"), skip(row(text(","), BLANKS))), text("]"), BLANKS)),
    ("number", row(NUMBER, BLANKS)),
    ("string", row(text('"'), ("spelt", ("pick", QUOTED)), text('"'), ("named", "blanks"))),
    ("table", row(text("{"), BLANKS, again(row(("named", "string"), text(":"), BLANKS, ("named", "value")),
                                           skip(row(text(","), BLANKS))), text("}"), BLANKS)),
    ("value", either(("named", "number"), ("named", "string"), ("named", "list"), ("named", "table"),
                     row(text("yes"), BLANKS), row(text("no"), BLANKS))),
))

# Sums and products in brackets.
SUMS = ("sum", (
    ("one", either(NUMBER, row(text("("), ("named", "sum"), text(")")), ("word", "xyz"))),
    ("product", row(("named", "one"), either(EMPTY, row(text("*"), ("named", "product"))))),
    ("sum", row(("named", "product"), either(EMPTY, row(("sign", "+-"), ("named", "sum"))))),
))

# Counts within counts, and a turned form.
COUNTS = ("box", (
    ("box", counted("!", either(("named", "box"), row(text("<"), ("named", "sort"), text(">"))))),
    ("sort", ("turned", either(("word", "ab"), NUMBER, row(COMMA, SPELT)),
              ((("aa", "a"), ("ab", 0)), (("ab", 1), ("ab", 22))))),
))

# Brackets alone: each text holds names within names.
BRACKETS = book(a=row(text("("), again(A), text(")")))

# Texts of these books and their worths.
TOLD = (
    (VALUES, "7", ("aa", (7,))),
    (VALUES, "0 \n", ("aa", (0,))),
    (VALUES, '"a\\"\\\\\\n b"', ("ab", ("a\"\\\n b", ()))),
    (VALUES, '[1, "",yes]', ("ac", ((("aa", (1,)), ("ab", ("", ())), ("ae", ())),))),
    (VALUES, '[ ]', ("ac", ((),))),
    (VALUES, '{"x":[{}], "yy" :no}', ("ad", (((("x", ()), ("ac", ((("ad", ((),)),),))), (("yy", ()), ("af", ()))),))),
    (VALUES, '{"x": 10 ,\n  "y": [ 1,2 , 3 ]}', ("ad", (((("x", ()), ("aa", (10,))), (("y", ()), ("ac", ((
        ("aa", (1,)), ("aa", (2,)), ("aa", (3,))),)))),))),
    (SUMS, "0", ((("aa", 0), ("aa", ())), ("aa", ()))),
    (SUMS, "x*12", ((("ac", "x"), ("ab", ((("aa", 12), ("aa", ())),))), ("aa", ()))),
    (SUMS, "(1)-yx", ((("ab", (((("aa", 1), ("aa", ())), ("aa", ())),)), ("aa", ())),
                      ("ab", ("-", ((("ac", "yx"), ("aa", ())), ("aa", ())))))),
    (COUNTS, "0!", ()),
    (COUNTS, "2!0!1!<a>", (("aa", ()), ("aa", (("ab", (("ab", 0),)),)))),
    (COUNTS, "3!<22><1><7>", (("ab", (("ab", 1),)), ("ab", (("ab", 22),)), ("ab", (("ab", 7),)))),
    (COUNTS, "10!" + "<,ab>" * 10, (("ab", (("ac", ("ab",)),)),) * 10),
    (BRACKETS, "()", ((),)),
    (BRACKETS, "(()(()))", ((((),), ((((),),),)),)),
)

# Other let books: a form of each word and of words within words.
LET_BOOKS = tuple(book(a=form) for form in LET) + (VALUES, SUMS, COUNTS, BRACKETS)
