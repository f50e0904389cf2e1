"""The texts of terms, claims, books and papers (point 22)."""

import random
import unittest

from leanround.reader import read_book, read_claim, read_paper, read_term
from leanround.writer import book_text, claim_text, paper_text, term_text
from sample_papers import ALL_FORMS, EVEN_PAPER, even, nat, s
from sample_texts import text_book, text_claim, text_paper, text_term
from samples import BOOK, ZERO, number, row

BOOK_TEXT = """maker zero 0
maker s 1
maker nil 0
maker put 2
saying nat 1 by 0
rule ( zero )
rule ( s x ) if nat x
saying even 1 by 0
rule ( zero )
rule ( s x ) if odd x
saying odd 1 by 0
rule ( s x ) if even x
saying plus 3 by 0
rule ( zero ) y y
rule ( s x ) y ( s z ) if plus x y z
saying le 2 by 1
rule x x
rule x ( s y ) if le x y
saying list 1 by 0
rule ( nil )
rule ( put x y ) if nat x if list y"""

ALL_FORMS_TEXT = """nat x => plus x ( zero ) x
by put nat ( s x ) to 1 2
nat x => plus x ( zero ) x , nat ( s x )
by use 1 1 3
nat x , nat ( s x ) => plus x ( zero ) x
by fill 4 with z x lefts 0 rights 0
nat x => plus x ( zero ) x , nat x
by same 0 1
nat z => plus z ( zero ) z
by cases 0 5 6
=> plus ( zero ) ( zero ) ( zero )
by use 0 0
nat w => plus ( s w ) ( zero ) ( s w )
by use 0 1 7
nat w => plus w ( zero ) w
by fill 4 with z w lefts 0 rights 0"""


class Written(unittest.TestCase):
    def told(self, write, read, given, text):
        kept = repr(given)
        for _ in range(2):
            self.assertEqual(write(given), text)
            self.assertEqual(read(text), given)
        self.assertEqual(repr(read(text=text)), kept)
        self.assertEqual(repr(given), kept)

    def term(self, term, text):
        self.told(term_text, read_term, term, text)
        self.assertEqual(term_text(term=term), text)

    def claim(self, claim, text):
        self.told(claim_text, read_claim, claim, text)
        self.assertEqual(claim_text(claim=claim), text)

    def book(self, book, text):
        self.told(book_text, read_book, book, text)
        self.assertEqual(book_text(book=book), text)

    def paper(self, paper, text):
        self.told(paper_text, read_paper, paper, text)
        self.assertEqual(paper_text(paper=paper), text)


class Terms(Written):
    def test_each_form(self):
        for term, text in (("x", "x"), ("abcdefgh", "abcdefgh"), (ZERO, "( zero )"),
                           (("s", "x"), "( s x )"), (("put", "x", "y"), "( put x y )"),
                           (number(2), "( s ( s ( zero ) ) )"),
                           (row(ZERO, "x"), "( put ( zero ) ( put x ( nil ) ) )"),
                           (("put", ("put", "x", "y"), "z"), "( put ( put x y ) z )"),
                           (("f", "a", "b", "c"), "( f a b c )"),
                           (("f", ("g",), ("g",), ("g",)), "( f ( g ) ( g ) ( g ) )")):
            self.term(term, text)

    def test_names_that_are_words(self):
        for name in ("maker", "saying", "rule", "by", "same", "cases", "use", "fill", "put", "with",
                     "rights", "left", "iff", "too", "a", "z", "zzzzzzzz"):
            self.term(name, name)
            self.term((name,), f"( {name} )")
            self.term((name, name, (name,)), f"( {name} {name} ( {name} ) )")

    def test_deep(self):
        for deep in range(31):
            self.term(number(deep), "( s " * deep + "( zero )" + " )" * deep)
            self.term(number(deep, "x"), "( s " * deep + "x" + " )" * deep)


class Claims(Written):
    def test_each_form(self):
        for claim, text in (
                (((), (nat("x"),)), "=> nat x"),
                (((nat("x"),), (even("x"),)), "nat x => even x"),
                (((nat("x"), nat(s("y"))), (even("x"), ("plus", ("x", ZERO, "y")))),
                 "nat x , nat ( s y ) => even x , plus x ( zero ) y"),
                (((), (nat("x"), nat("x"), nat("x"))), "=> nat x , nat x , nat x"),
                (((nat("x"),) * 3, (("f", ("a", "b", "c", "d")),)),
                 "nat x , nat x , nat x => f a b c d")):
            self.claim(claim, text)

    def test_names_that_are_words(self):
        self.claim(((("by", ("by",)),), (("rights", ("with", ("put",))),)),
                   "by by => rights with ( put )")


class Books(Written):
    def test_book(self):
        self.book(BOOK, BOOK_TEXT)

    def test_without_makers_and_sayings(self):
        self.book(((), ()), "")
        self.book(((("zero", 0),), ()), "maker zero 0")
        self.book(((), (("nat", 1, 0, ()),)), "saying nat 1 by 0")
        self.book(((), (("nat", 1, 0, ()), ("odd", 2, 1, ()))), "saying nat 1 by 0\nsaying odd 2 by 1")

    def test_rules(self):
        """Of several heads, without needs, with one, two and three."""
        for rule, text in (
                ((("x",), ()), "rule x"),
                ((("x", "y", ZERO), ()), "rule x y ( zero )"),
                (((s("x"),), (nat("x"),)), "rule ( s x ) if nat x"),
                (((s("x"), "y"), (nat("x"), ("le", ("x", "y")))), "rule ( s x ) y if nat x if le x y"),
                ((("x",), (nat("x"),) * 3), "rule x if nat x if nat x if nat x")):
            self.book(((), (("f", 1, 0, (rule,)),)), "saying f 1 by 0\n" + text)
            self.book(((), (("f", 1, 0, (rule, rule)), ("g", 1, 0, (rule,)))),
                      "\n".join(["saying f 1 by 0", text, text, "saying g 1 by 0", text]))

    def test_numbers(self):
        for many in (0, 1, 9, 10, 99, 100, 999, 1000, 9999, 5040):
            self.book(((("s", many),), (("nat", many, many, ()),)),
                      f"maker s {many}\nsaying nat {many} by {many}")

    def test_not_let_by(self):
        """Names twice, sayings that the book hasn't, heads too many: it is written all the same."""
        self.book(((("s", 0), ("s", 7)), (("s", 0, 5, ((("x", "y"), (("t", ("z", "z")),)),)),
                                         ("s", 0, 0, ()))),
                  "maker s 0\nmaker s 7\nsaying s 0 by 5\nrule x y if t z z\nsaying s 0 by 0")

    def test_names_that_are_words(self):
        self.book(((("maker", 1), ("rule", 0)), (("saying", 1, 0, ((("by",), (("rule", ("by",)),)),)),
                                                 ("by", 1, 0, ()))),
                  "maker maker 1\nmaker rule 0\nsaying saying 1 by 0\nrule by if rule by\n"
                  "saying by 1 by 0")


class Papers(Written):
    def steps(self, *rows):
        claim = ((), (nat("x"),))
        for step, text in rows:
            self.paper(((claim, step),), "=> nat x\nby " + text)
            self.paper(((claim, step), (claim, step)),
                       f"=> nat x\nby {text}\n=> nat x\nby {text}")

    def test_all_forms(self):
        self.paper(ALL_FORMS, ALL_FORMS_TEXT)

    def test_same(self):
        self.steps((("same", 0, 0), "same 0 0"), (("same", 12, 9999), "same 12 9999"))

    def test_cases(self):
        self.steps((("cases", 0, ()), "cases 0"), (("cases", 3, (None,)), "cases 3 -"),
                   (("cases", 1, (None, 0, None, 1234)), "cases 1 - 0 - 1234"),
                   (("cases", 9999, (7,)), "cases 9999 7"))

    def test_use(self):
        self.steps((("use", 0, 0, ()), "use 0 0"), (("use", 1, 2, (3,)), "use 1 2 3"),
                   (("use", 0, 1000, (10, 10, 0)), "use 0 1000 10 10 0"))

    def test_fill(self):
        self.steps((("fill", 0, (), (), ()), "fill 0 with lefts rights"),
                   (("fill", 3, (("x", "x"),), (), (0,)), "fill 3 with x x lefts rights 0"),
                   (("fill", 30, (("x", s("y")), ("y", ZERO)), (2, 0), (10, 1, 1)),
                    "fill 30 with x ( s y ) y ( zero ) lefts 2 0 rights 10 1 1"),
                   (("fill", 1, (("x", "x"), ("x", "y")), (5,), ()),
                    "fill 1 with x x x y lefts 5 rights"),
                   (("fill", 1, (("with", "rights"), ("rights", ("with", "rights"))), (), (1,)),
                    "fill 1 with with rights rights ( with rights ) lefts rights 1"))

    def test_put(self):
        self.steps((("put", nat("x"), 1, 2), "put nat x to 1 2"),
                   (("put", ("put", ("put", s("put"))), 0, 9999), "put put put ( s put ) to 0 9999"),
                   (("put", ("le", (ZERO, ("f", "a", "b", "c"))), 40, 40),
                    "put le ( zero ) ( f a b c ) to 40 40"))

    def test_forty_nodes(self):
        paper = EVEN_PAPER * 8
        self.paper(paper, "\n".join([paper_text(EVEN_PAPER)] * 8))


class ByChance(Written):
    def test_by_chance(self):
        for seed in range(600):
            rng = random.Random(seed)
            for make, write, read in ((text_term, term_text, read_term),
                                      (text_claim, claim_text, read_claim),
                                      (text_book, book_text, read_book),
                                      (text_paper, paper_text, read_paper)):
                given = make(rng)
                text = write(given)
                self.assertEqual(repr(read(text)), repr(given))
                self.assertEqual(write(read(text)), text)
                self.assertNotIn("  ", text)
                self.assertEqual(text.strip(), text)

    def test_unlike_ones_have_unlike_texts(self):
        for make, write in ((text_term, term_text), (text_claim, claim_text),
                            (text_book, book_text), (text_paper, paper_text)):
            given = {repr(told): told for told in [make(random.Random(n)) for n in range(500)]}
            self.assertEqual(len({write(told) for told in given.values()}), len(given))


if __name__ == "__main__":
    unittest.main()
