"""Texts that are none, refused with the first row that can't be one there (point 22)."""

import random
import time
import unittest

from leanround.errors import BadText
from leanround.reader import read_book, read_claim, read_paper, read_term
from leanround.writer import book_text, claim_text, paper_text, term_text
from sample_papers import ALL_FORMS, EVEN_PAPER
from sample_texts import broken, text_book, text_claim, text_paper, text_term
from samples import BOOK

SHORT = 5
NO_NAMES = ("if", "to", "lefts", "abcdefghi", "X", "aB", "x1", "1", "x-", "x'", "", "~", "a;", "\n",
            "x\n", "\nx", "(", ")", ",", "=>", "-")


class Refused(unittest.TestCase):
    def bad(self, read, row, *texts):
        for text in texts:
            for told in (lambda: read(text), lambda: read(text=text)):
                with self.assertRaises(BadText, msg=repr(text)) as caught:
                    told()
                self.assertEqual(caught.exception.row, row, repr(text))
                self.assertIs(caught.exception.row.__class__, int)


class Terms(Refused):
    def test_blanks(self):
        self.bad(read_term, 0, "", " ", "  ", " x", "x ", "( s  x )", "(  s x )", "( s x  )",
                 "( s x ) ", " ( s x )", "( s\nx )", "x\n", "\nx", "( s x\n)", "\n")

    def test_brackets(self):
        self.bad(read_term, 0, "( s x", "s x )", "( s x ) )", "( ( s x )", "( ( s x ) )", "( )", "()",
                 "(s x)", "( s x)", "(s x )", "( ( s ) x )", ")", "(", "( s ( ) )", ") x (", "x )",
                 "( s x ) ( s x )", "( s ( x )", "( ( ) )", "( ( x ) x )")

    def test_more_than_one(self):
        self.bad(read_term, 0, "x y", "s x", "x ( zero )", "( zero ) x", "x , y", "=> x", "x =>")

    def test_names(self):
        for name in NO_NAMES:
            self.bad(read_term, 0, name, f"( {name} )", f"( s {name} )", f"( {name} x )")

    def test_deep(self):
        self.assertEqual(len(term_text(read_term("( s " * 30 + "x" + " )" * 30))), 181)
        for deep in (31, 32, 60, 500):
            self.bad(read_term, 0, "( s " * deep + "x" + " )" * deep,
                     "( s " * deep + "( zero )" + " )" * deep,
                     "( p x " * deep + "x" + " )" * deep, "( p " * deep + "x" + " x )" * deep)
        thirty, more = ["( s " * deep + "x" + " )" * deep for deep in (30, 31)]
        read_term(f"( p {thirty[4:-2]} x )")
        self.bad(read_term, 0, f"( p {thirty} x )", f"( p x {thirty} )", f"( p {more} x )")


class Claims(Refused):
    def test_blanks(self):
        self.bad(read_claim, 0, "", " ", "=>", "=> ", " => nat x", "=> nat x ", "=>  nat x",
                 "nat x  => nat x", "nat  x => nat x", "=> nat x\n", "\n=> nat x", "=> nat\nx",
                 "nat x\n=> nat x", "=> nat x\n=> nat x")

    def test_commas(self):
        self.bad(read_claim, 0, "=> nat x, nat y", "=> nat x ,nat y", "=> nat x,nat y",
                 "=> nat x , , nat y", "=> , nat x", "=> nat x ,", "nat x , => nat x",
                 ", nat x => nat x", ", => nat x", "nat x , , nat y => nat x", "nat x => ,",
                 "nat x; nat y => nat x", "=> nat x  , nat y")

    def test_arrows(self):
        self.bad(read_claim, 0, "nat x", "nat x , nat y", "nat x =>", "nat x => => nat x",
                 "nat x => nat x =>", "=> nat x => nat x", "=> => nat x", "nat x=> nat x",
                 "nat x =>nat x", "nat x=>nat x", "=>nat x", "nat x = > nat x", "nat x > nat x",
                 "nat x -> nat x", "nat x => nat x => nat x")

    def test_atoms(self):
        self.bad(read_claim, 0, "=> nat", "nat => nat x", "=> ( nat x )", "=> nat x ( ", "=> nat ( )",
                 "=> nat x )", "=> nat ( x", "=> ( zero ) x", "nat x => nat", "=> nat ( ( s ) x )",
                 "=> nat ( s , x )", "=> nat ( s => x )", "=> nat x y )")
        for name in NO_NAMES:
            self.bad(read_claim, 0, f"=> {name} x", f"{name} x => nat x")
            if name not in (",", "=>"):
                self.bad(read_claim, 0, f"=> nat {name}", f"nat {name} => nat x")

    def test_deep(self):
        for deep, right in ((30, True), (31, False), (200, False)):
            term = "( s " * deep + "x" + " )" * deep
            for text in (f"=> nat {term}", f"nat {term} => nat x", f"=> nat x , le x {term}"):
                if right:
                    self.assertEqual(claim_text(read_claim(text)), text)
                else:
                    self.bad(read_claim, 0, text)


class Books(Refused):
    ROWS = ["maker zero 0", "maker s 1", "saying nat 1 by 0", "rule ( zero )",
            "rule ( s x ) if nat x", "saying odd 1 by 0", "rule ( s x ) if nat x if nat x"]

    def at_each(self, row, *places):
        """A row that can't be one at any of these places, put in there or in one's place."""
        for at in places:
            self.bad(read_book, at, "\n".join([*self.ROWS[:at], row, *self.ROWS[at:]]),
                     "\n".join([*self.ROWS[:at], row, *self.ROWS[at + 1:]]),
                     "\n".join([*self.ROWS[:at], row]),
                     "\n".join([*self.ROWS[:at], row, "also none"]))

    def test_rows_are_right(self):
        for many in range(8):
            text = "\n".join(self.ROWS[:many])
            self.assertEqual(book_text(read_book(text)), text)

    def test_empty_rows(self):
        self.at_each("", 1, 2, 3, 5, 7)
        self.bad(read_book, 0, "\n", "\n\n", "\nmaker zero 0", " ", "  ", " \n")
        self.bad(read_book, 7, "\n".join(self.ROWS) + "\n", "\n".join(self.ROWS) + "\n\n")
        self.bad(read_book, 1, "maker zero 0\n", "maker zero 0\n\nmaker s 1", "maker zero 0\n ")

    def test_no_such_rows(self):
        for row in ("nothing", "zero 0", "Maker zero 0", "=> nat x", "by same 0 0", "maker", "saying",
                    "rule", " maker zero 0", "maker zero 0 ", "maker  zero 0", "if nat x", ";"):
            self.at_each(row, 0, 1, 2, 3, 7)

    def test_makers(self):
        for row in ("maker zero", "maker 0", "maker 0 zero", "maker zero 0 0", "maker zero 00",
                    "maker zero 01", "maker zero 12345", "maker zero -1", "maker zero +1",
                    "maker zero 1.0", "maker zero x", "maker zero -", "maker ( zero ) 0",
                    "maker zero 0x", "maker zero  0", "zero maker 0", "maker zero by 0"):
            self.at_each(row, 0, 1, 2)
        for name in NO_NAMES:
            if "\n" not in name:
                self.at_each(f"maker {name} 0", 0, 1, 2)

    def test_maker_behind_a_saying(self):
        self.at_each("maker nil 0", 3, 4, 5, 6, 7)

    def test_sayings(self):
        for row in ("saying nat 1 by", "saying nat 1", "saying nat", "saying nat by 0", "saying 1 by 0",
                    "saying nat 1 0", "saying nat 1 by 0 0", "saying nat 1 if 0", "saying nat 1 by 00",
                    "saying nat 01 by 0", "saying nat 12345 by 0", "saying nat 1 by 12345",
                    "saying nat -1 by 0", "saying nat 1 by -1", "saying nat 1 by x", "saying by 1 nat 0",
                    "saying nat x by 0", "saying nat 1 by  0", "saying ( nat ) 1 by 0"):
            self.at_each(row, 0, 2, 3, 5, 7)
        for name in NO_NAMES:
            if "\n" not in name:
                self.at_each(f"saying {name} 1 by 0", 0, 2, 5, 7)

    def test_rules(self):
        for row in ("rule if nat x", "rule x if", "rule x if if nat x", "rule x if nat x if",
                    "rule x if nat", "rule x if ( nat x )", "rule x , y", "rule x => nat x",
                    "rule x if nat x , nat y", "rule ( x", "rule x )", "rule ( )", "rule x  y",
                    "rule x if nat x )", "rule x if nat ( x", "rule x if nat if x", "rule ( x if y )",
                    "rule x IF nat x", "rule 0", "rule x if 0 x", "rule x if nat 0",
                    "rule " + "( s " * 31 + "x" + " )" * 31,
                    "rule x if nat " + "( s " * 31 + "x" + " )" * 31):
            self.at_each(row, 3, 4, 6, 7)
        for name in NO_NAMES:
            if "\n" not in name:
                self.at_each(f"rule {name}", 3, 7)
                if name != "if":
                    self.at_each(f"rule x {name} y", 3, 7)

    def test_rule_ahead_of_a_saying(self):
        self.at_each("rule ( zero )", 0, 1, 2)

    def test_deep(self):
        row = "rule " + "( s " * 30 + "x" + " )" * 30 + " if nat " + "( s " * 30 + "x" + " )" * 30
        self.assertEqual(book_text(read_book("saying f 1 by 0\n" + row)), "saying f 1 by 0\n" + row)


class Papers(Refused):
    ROWS = paper_text(ALL_FORMS).split("\n")

    def claim_row(self, row):
        """A row that can't be a claim's, at each claim's place."""
        for at in (0, 2, 14):
            self.bad(read_paper, at, "\n".join([*self.ROWS[:at], row, *self.ROWS[at + 1:]]),
                     "\n".join([*self.ROWS[:at], row]),
                     "\n".join([*self.ROWS[:at], row, "none"]))

    def step_row(self, *rows):
        """Rows that can't be a step's, at each step's place."""
        for row in rows:
            for at in (1, 3, 15):
                self.bad(read_paper, at, "\n".join([*self.ROWS[:at], row, *self.ROWS[at + 1:]]),
                         "\n".join([*self.ROWS[:at], row]),
                         "\n".join([*self.ROWS[:at], row, "none"]))

    def test_second_row_lacking(self):
        for many in range(1, 16, 2):
            self.bad(read_paper, many, "\n".join(self.ROWS[:many]))
        for many in range(2, 17, 2):
            text = "\n".join(self.ROWS[:many])
            self.assertEqual(paper_text(read_paper(text)), text)

    def test_empty_rows(self):
        self.bad(read_paper, 0, "", " ", "\n", "\n\n", "\n" + "\n".join(self.ROWS))
        for many in range(2, 17, 2):
            self.bad(read_paper, many, "\n".join(self.ROWS[:many]) + "\n",
                     "\n".join(self.ROWS[:many]) + "\n\n", "\n".join(self.ROWS[:many]) + "\n ")
        for many in range(1, 16, 2):
            self.bad(read_paper, many, "\n".join(self.ROWS[:many]) + "\n")
        self.claim_row("")
        self.step_row("", " ", "by", "by ", " by same 0 0")

    def test_claims(self):
        for row in ("nat x", "=>", "nat x =>", "by same 0 0", "=> nat x ", " => nat x", "=> nat",
                    "=> nat x,", "=> => nat x", "maker zero 0"):
            self.claim_row(row)

    def test_rows_exchanged(self):
        rows = list(self.ROWS)
        rows[4], rows[5] = rows[5], rows[4]
        self.bad(read_paper, 4, "\n".join(rows))
        rows = self.ROWS[1:] + self.ROWS[:1]
        self.bad(read_paper, 0, "\n".join(rows))
        self.bad(read_paper, 3, "\n".join([*self.ROWS[:3], *self.ROWS[4:]]))

    def test_words(self):
        self.step_row("same 0 0", "by by same 0 0", "By same 0 0", "by again 0 1", "by hyp 0",
                      "by Same 0 0", "by 0 0", "=> nat x", "by same 0 0 ", "by  same 0 0",
                      "by same  0 0", "by none", "by give 0 0", "by if 0 0")

    def test_numbers(self):
        for number in ("00", "01", "007", "12345", "99999", "-1", "+1", "1.", "x", "-", "--", "1x",
                       "(", ")", "( 1 )", ",", "=>", "", "1,", "0x1", "1_0", "one"):
            self.step_row(f"by same {number} 0", f"by same 0 {number}", f"by cases {number}",
                          f"by cases {number} 1", f"by use {number} 0", f"by use 0 {number}",
                          f"by use 0 0 {number}", f"by use 0 0 1 {number}",
                          f"by fill {number} with lefts rights", f"by fill 0 with lefts {number} rights",
                          f"by fill 0 with lefts rights {number}",
                          f"by put nat x to {number} 0", f"by put nat x to 0 {number}")
            if number != "-":
                self.step_row(f"by cases 0 {number}", f"by cases 0 - {number}")

    def test_same(self):
        self.step_row("by same", "by same 0", "by same 0 0 0", "by same - -")

    def test_cases(self):
        self.step_row("by cases", "by cases -", "by cases - 0", "by cases 0 --", "by cases 0 (1 2)",
                      "by cases 0 , 1", "by cases 0 None")

    def test_use(self):
        self.step_row("by use", "by use 0", "by use 0 0 -", "by use - 0", "by use 0 0 1 -")

    def test_fill(self):
        self.step_row("by fill", "by fill 0", "by fill 0 with", "by fill 0 with lefts",
                      "by fill 0 with rights", "by fill 0 lefts rights", "by fill with lefts rights",
                      "by fill 0 with rights lefts", "by fill 0 with lefts lefts rights",
                      "by fill 0 with lefts rights rights", "by fill 0 0 with lefts rights",
                      "by fill 0 with with lefts rights", "by fill 0 with x lefts rights",
                      "by fill 0 with x y z lefts rights", "by fill 0 with ( s x ) x lefts rights",
                      "by fill 0 with x x ( s y ) y lefts rights", "by fill 0 with x ( s lefts rights",
                      "by fill 0 with x ) lefts rights", "by fill 0 with x if lefts rights",
                      "by fill 0 with to x lefts rights", "by fill 0 with x 0 lefts rights",
                      "by fill - with lefts rights", "by fill 0 with lefts - rights",
                      "by fill 0 x x with lefts rights", "by fill 0 with lefts 0 rights 0 lefts",
                      "by fill 0 with x x lefts x rights 0", "by fill 0 with lefts rights 0 ( zero )",
                      "by fill 0 with x " + "( s " * 31 + "x" + " )" * 31 + " lefts rights")

    def test_put(self):
        self.step_row("by put", "by put nat x", "by put nat x to", "by put nat x to 1",
                      "by put nat x to 1 2 3", "by put nat x 1 2", "by put to 1 2", "by put nat to 1 2",
                      "by put nat x to to 1 2", "by put nat x to 1 to 2", "by put nat x to - 2",
                      "by put nat x to 1 -", "by put nat x , nat y to 1 2", "by put => nat x to 1 2",
                      "by put ( nat x ) to 1 2", "by put nat ( x to 1 2", "by put nat x ) to 1 2",
                      "by put nat if to 1 2", "by put 0 x to 1 2", "by put nat x at 1 2",
                      "by put nat " + "( s " * 31 + "x" + " )" * 31 + " to 1 2")

    def test_which_row(self):
        """The first one, whatever is wrong behind it."""
        rows = list(self.ROWS)
        for at in range(15, -1, -1):
            rows[at] = "none"
            self.bad(read_paper, at, "\n".join(rows), "\n".join(rows[:at + 1]),
                     "\n".join(rows) + "\n")


class Broken(Refused):
    """Whatever is made of a text: it is the text of something, or it is refused."""

    def row_told(self, read, text):
        try:
            read(text)
        except BadText as refused:
            return refused.row
        return None

    def check(self, read, write, text):
        row = self.row_told(read, text)
        if row is None:
            self.assertEqual(write(read(text)), text)
            return False
        self.assertEqual(self.row_told(read, text), row)
        if read in (read_term, read_claim):
            self.assertEqual(row, 0)
        elif read == read_book:
            self.check_book_row(text.split("\n"), row)
        else:
            self.check_paper_row(text.split("\n"), row)
        return True

    def check_book_row(self, rows, row):
        """All rows ahead are a book, with this one they are none."""
        self.assertIsNone(self.row_told(read_book, "\n".join(rows[:row])))
        if rows[:row + 1] != [""]:
            self.assertEqual(self.row_told(read_book, "\n".join(rows[:row + 1])), row)

    def check_paper_row(self, rows, row):
        """Each row ahead is one by itself, this one isn't, or isn't there."""
        for at, told in enumerate(rows[:row + 1]):
            text = told + "\nby same 0 0" if at % 2 == 0 else "=> nat x\n" + told
            due = None if at < row else row % 2
            self.assertEqual(self.row_told(read_paper, text), due)
        if row == len(rows):
            self.assertEqual(row % 2, 1)

    def test_by_chance(self):
        told = {}
        for seed in range(3000):
            rng = random.Random(seed)
            for make, write, read in ((text_term, term_text, read_term),
                                      (text_claim, claim_text, read_claim),
                                      (text_book, book_text, read_book),
                                      (text_paper, paper_text, read_paper)):
                refused = self.check(read, write, broken(rng, write(make(rng))))
                told[read, refused] = told.get((read, refused), 0) + 1
        self.assertGreater(min(told.values()), 300)
        self.assertEqual(len(told), 8)

    def test_written_out(self):
        for seed in range(1500):
            rng = random.Random(seed)
            self.check(read_book, book_text, broken(rng, book_text(BOOK)))
            self.check(read_paper, paper_text, broken(rng, paper_text(EVEN_PAPER)))


class Kinds(unittest.TestCase):
    def kinds(self, told):
        self.assertIn(told.__class__, (tuple, str, int, None.__class__))
        if told.__class__ is tuple:
            for part in told:
                self.kinds(part)

    def test_kinds(self):
        for seed in range(100):
            rng = random.Random(seed)
            for make, write, read in ((text_term, term_text, read_term),
                                      (text_claim, claim_text, read_claim),
                                      (text_book, book_text, read_book),
                                      (text_paper, paper_text, read_paper)):
                self.kinds(read(write(make(rng))))


class InShortTime(Refused):
    def bracketed(self):
        """As many brackets as fit into 8,000 signs, opened and never ended, ended too often."""
        many = 1300
        return ["( " * 3999 + "(", "( s " * 1999 + "x", ") " * 3999 + ")", "( s ) " * 1333 + ")",
                "( s " * many + "x" + " )" * many, "( s " * many + "x" + " )" * (many - 1),
                "( s " * many + "x" + " )" * (many + 1), "x" + " )" * 3999, "( s )" + " )" * 3997,
                "( " * 1999 + "x" + " )" * 1999, "(" * 8000, ")" * 8000, "( )" * 2000,
                "( s ( s ) " * 800, "( p ( s ) " * 700 + "x" + " )" * 700]

    def test_brackets(self):
        began = time.perf_counter()
        front = paper_text(ALL_FORMS)
        for term in self.bracketed():
            self.bad(read_term, 0, term)
            self.bad(read_claim, 0, f"=> nat {term}", f"nat {term} => nat x", f"{term} => nat x")
            self.bad(read_book, 1, f"saying nat 1 by 0\nrule {term}",
                     f"saying nat 1 by 0\nrule x if nat {term}",
                     f"saying nat 1 by 0\nrule {term} if nat x")
            self.bad(read_paper, 17, front + f"\n=> nat x\nby put nat {term} to 1 2",
                     front + f"\n=> nat x\nby fill 0 with x {term} lefts rights")
            self.bad(read_paper, 16, front + f"\n=> nat {term}\nby same 0 0")
        self.assertLess(time.perf_counter() - began, SHORT)

    def test_long_texts(self):
        began = time.perf_counter()
        self.assertEqual(len(read_claim("=> nat" + " x" * 3995)[1][0][1]), 3995)
        self.assertEqual(len(read_claim("=> a x" + " , a x" * 1300)[1]), 1301)
        self.assertEqual(len(read_book("maker a 0" + "\nmaker a 0" * 780)[0]), 781)
        self.assertEqual(len(read_paper("=> a x\nby same 0 0" + "\n=> a x\nby same 0 0" * 400)), 401)
        self.bad(read_book, 7999, "maker a 0\n" + "maker a 0\n" * 7998)
        self.bad(read_term, 0, "x" * 8000, " " * 8000, "x " * 4000, "\n" * 8000)
        self.bad(read_paper, 0, "x" * 8000, " " * 8000, "\n" * 8000)
        self.assertLess(time.perf_counter() - began, SHORT)


if __name__ == "__main__":
    unittest.main()
