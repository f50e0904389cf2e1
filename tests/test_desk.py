"""The desk (point 23): what each row is answered, what is refused and in which order."""

import random
import unittest

from leanround.against import against
from leanround.claims import names_of
from leanround.desk import Desk
from leanround.errors import BadText, Loose, NoBook, NoRow, NoStep, Unknown
from leanround.rings import closed, look
from leanround.unrolling import unrolled
from leanround.whys import why_of
from leanround.writer import book_text, claim_text, paper_text, term_text
from plainly import all_things, atoms_with
from sample_papers import (
    ALL_FORMS, BY_TURNS, EVEN_PAPER, EXCHANGED, TO_ITSELF, nat, net_of_cases, net_of_fills, odd, s)
from sample_runs import FULL_PAPER, GROWING, LISTED, ONE_WAY, calling, runs_of_nets
from samples import BOOK, ZERO, number

SAME = ((((nat("x"),), (nat("x"),)), ("same", 0, 0)),)
NOT_OF_THE_BOOK = ((((), (("other", ("x",)),)), ("same", 0, 0)),)
THREE = "( s ( s ( s ( zero ) ) ) )"


def in_a_row(text):
    return text.replace("\n", " ; ")


def book_row(book):
    return "book " + in_a_row(book_text(book))


def paper_row(name, paper):
    return f"paper {name} " + in_a_row(paper_text(paper))


class Asked(unittest.TestCase):
    def setUp(self):
        self.desk = Desk()

    def told(self, row, text):
        self.assertEqual(self.desk.say(row), text, row)

    def keeps(self, book=BOOK, **papers):
        self.told(book_row(book), "kept")
        for name, paper in papers.items():
            self.told(paper_row(name, paper), f"nodes {len(paper)}")

    def again(self, row, text):
        """What is asked again with the same is told the same."""
        for _ in range(2):
            self.told(row, text)
        self.assertEqual(self.desk.say(row=row), text)

    def refused(self, refusal, *rows, **fields):
        for row in rows:
            for told in (lambda: self.desk.say(row), lambda: self.desk.say(row=row)):
                with self.assertRaises(refusal, msg=row) as caught:
                    told()
                self.assertIs(caught.exception.__class__, refusal, row)
                for field, worth in fields.items():
                    self.assertEqual(getattr(caught.exception, field), worth, row)


class Keeping(Asked):
    def test_book(self):
        self.again(book_row(BOOK), "kept")
        self.told("book maker zero 0", "kept")
        self.told("book saying nat 1 by 0", "kept")
        self.told("book saying nat 1 by 0 ; rule x", "kept")

    def test_paper(self):
        self.keeps()
        for paper in (EVEN_PAPER, ALL_FORMS, SAME, TO_ITSELF, BY_TURNS):
            self.again(paper_row("a", paper), f"nodes {len(paper)}")
        self.again(paper_row("abcdefgh", EVEN_PAPER * 8), "nodes 40")

    def test_not_standing(self):
        """A paper is kept though its steps are wrong, and of no book's atoms."""
        self.keeps(a=((SAME[0][0], ("put", ("other", ("y", ("none",))), 7, 9999)),),
                   b=((SAME[0][0], ("cases", 5, (None, 3))), (SAME[0][0], ("use", 0, 9, ()))),
                   c=((SAME[0][0], ("fill", 1, (("x", ("other",)), ("x", "x")), (9,), ())),))
        for name in "abc":
            self.again("look " + name, "no step 0")

    def test_kept_by_a_name_again(self):
        self.keeps(a=EVEN_PAPER, b=SAME)
        self.told(paper_row("a", TO_ITSELF), "nodes 1")
        self.again("claim a", "=> nat x")
        self.again("look a", "loose 0")
        self.again("claim b", "nat x => nat x")
        self.again("look b", "let by")

    def test_another_book(self):
        """All papers go, though the book were the same; then others may be kept."""
        self.keeps(a=EVEN_PAPER, b=SAME)
        self.told(book_row(BOOK), "kept")
        for name in "ab":
            for row in ("look ", "claim "):
                self.refused(Unknown, row + name, name=name)
        self.told(paper_row("b", SAME), "nodes 1")
        self.told(book_row(GROWING), "kept")
        self.refused(Unknown, "look b", name="b")
        self.told(paper_row("b", FULL_PAPER), "nodes 6")
        self.again("look b", "let by")
        self.refused(NoRow, paper_row("c", EVEN_PAPER))

    def test_names_that_are_words(self):
        self.keeps(look=SAME, paper=TO_ITSELF, claim=SAME, unroll=SAME, against=SAME)
        self.told(paper_row("book", EVEN_PAPER), "nodes 5")
        self.again("look look", "let by")
        self.again("look paper", "loose 0")
        self.again("claim book", "even x => nat x")
        self.again("unroll unroll ( zero )", "0 gone 1")
        self.again("against against 2", "none")

    def test_two_desks(self):
        other = Desk()
        self.keeps(a=EVEN_PAPER)
        with self.assertRaises(Unknown):
            other.say("look a")
        with self.assertRaises(NoRow):
            other.say(paper_row("a", SAME))
        self.assertEqual(other.say(book_row(GROWING)), "kept")
        self.assertEqual(other.say(paper_row("a", FULL_PAPER)), "nodes 6")
        self.again("claim a", "even x => nat x")
        self.assertEqual(other.say("claim a"), "nat x => full x")
        self.assertEqual(other.say("unroll a ( s ( zero ) )"), "0 gone 8")
        self.again("unroll a ( s ( zero ) )", "not so 0")


class Semicolons(Asked):
    def test_between_words(self):
        self.told("book maker zero 0 ; saying nat 1 by 0 ; rule ( zero )", "kept")
        self.told("paper a => nat ( zero ) ; by use 0 0", "nodes 1")
        self.told("paper a => nat ( zero ) ; by use 0 0 ; => nat x ; by same 0 0", "nodes 2")

    def test_first_and_last_word(self):
        """It is no line feed there, so the row that it stands in is none."""
        for text in ("; maker zero 0", ";", "; ;", "; ; maker zero 0", "maker zero 0 ;"):
            self.refused(BadText, "book " + text, row=0)
        self.refused(BadText, "book maker zero 0 ; maker s 1 ;", row=1)
        self.refused(BadText, "book maker zero 0 ; ;", row=1)
        self.keeps()
        self.refused(BadText, "paper a ; => nat x ; by same 0 0", "paper a ;", "paper a => nat x ;",
                     row=0)
        self.refused(BadText, "paper a => nat x ; by same 0 0 ;", row=1)
        self.refused(BadText, "paper a => nat x ; by same 0 0 ; ;", row=2)

    def test_two_and_with_more_blanks(self):
        self.refused(BadText, "book maker zero 0 ; ; maker s 1", row=1)
        self.refused(BadText, "book maker zero 0 ; ; ; maker s 1", row=1)
        self.refused(BadText, "book maker zero 0 ;  maker s 1", "book maker zero 0 ; maker  s 1", row=1)
        self.refused(BadText, "book maker zero 0  ; maker s 1", "book  ; maker s 1", row=0)
        self.refused(BadText, "book maker zero 0 ; ", row=1)

    def test_within_words(self):
        for text in ("maker zero 0; maker s 1", "maker zero 0 ;maker s 1", "maker zero 0;maker s 1",
                     "maker ze;ro 0"):
            self.refused(BadText, "book " + text, row=0)


class Looking(Asked):
    def test_let_by(self):
        self.keeps(a=EVEN_PAPER, b=ALL_FORMS, c=BY_TURNS, d=SAME, e=LISTED)
        for name in "abcde":
            self.again("look " + name, "let by")

    def test_no_step(self):
        self.keeps(a=EVEN_PAPER[:4], b=EVEN_PAPER[:3], c=((SAME[0][0], ("same", 0, 1)),),
                   d=EVEN_PAPER + ((SAME[0][0], ("same", 1, 0)),), e=ONE_WAY[:2])
        for name, at in (("a", 3), ("b", 2), ("c", 0), ("d", 5), ("e", 0)):
            self.again("look " + name, f"no step {at}")

    def test_loose(self):
        papers = {"a": TO_ITSELF, "b": EXCHANGED, "c": ONE_WAY, "d": EVEN_PAPER + (
            ((((), (nat("x"),)), ("fill", 5, (("x", "x"),), (), (0,)))),)}
        self.keeps(**papers)
        self.again("look a", "loose 0")
        self.again("look b", "loose 0 0")
        self.again("look c", "loose 2")
        self.again("look d", "loose 5")

    def test_nodes_of_a_ring_in_order(self):
        for seed in range(20):
            paper = net_of_fills(seed, 6, 1 + seed % 2)
            self.keeps(a=paper)
            told = self.desk.say("look a")
            with self.assertRaises(Loose) as caught:
                look(BOOK, paper, 500)
            nodes = [n for n, _ in caught.exception.ring]
            self.assertEqual(told, " ".join(["loose", *map(str, nodes)]))
            self.again("look a", told)

    def test_too_many(self):
        """Just at 500 and one above; of one that isn't let by as well."""
        more = ((((nat("x"),), (nat("x"),)), ("same", 0, 0)),)
        paper = net_of_cases(66, 2, 3)
        self.assertEqual(len(closed(BOOK, paper)), 500)
        front = ((SAME[0][0], ("fill", 11, (("x", "x"),), (0,), (0,))),)
        self.keeps(a=paper, b=paper + more + more, c=paper + front + more)
        self.assertEqual(len(closed(BOOK, paper + front + more)), 501)
        self.again("look a", "let by")
        self.again("look b", "let by")
        self.again("look c", "too many")
        self.refused(NoRow, "unroll c ( zero ) ( zero ) ( zero )")
        self.again("unroll a ( zero ) ( zero ) ( zero )", "0 gone 2")
        paper = net_of_fills(68, 12, 3)
        self.assertEqual(len(closed(BOOK, paper)), 500)
        front = ((SAME[0][0], ("fill", 13, (("x", "x"),), (0,), (0,))),)
        self.keeps(a=paper, c=paper + front + more)
        self.assertIn("loose ", self.desk.say("look a"))
        self.again("look c", "too many")

    def test_no_step_ahead_of_too_many(self):
        paper = net_of_fills(0, 24, 5)
        self.keeps(a=paper, b=paper[:-1])
        self.again("look a", "too many")
        with self.assertRaises(NoStep) as caught:
            look(BOOK, paper[:-1])
        self.again("look b", f"no step {caught.exception.at}")


class Claims(Asked):
    def test_claim(self):
        self.keeps(a=EVEN_PAPER, b=ALL_FORMS, c=BY_TURNS, d=TO_ITSELF, e=EVEN_PAPER[3:])
        self.again("claim a", "even x => nat x")
        self.again("claim b", "nat x => plus x ( zero ) x")
        self.again("claim c", "nat x , nat y => le ( zero ) x , le ( zero ) y")
        self.again("claim d", "=> nat x")
        self.again("claim e", "odd y => nat y")


class Against(Asked):
    def claims(self, *claims):
        self.keeps(**{"abcdefgh"[at]: ((claim, ("same", 0, 0)),) for at, claim in enumerate(claims)})

    def test_none(self):
        self.keeps(a=EVEN_PAPER, b=BY_TURNS)
        for many in range(6):
            self.again(f"against a {many}", "none")
            self.again(f"against b {many}", "none")

    def test_by_zero_to_five(self):
        """The least things are of three makers in all."""
        claim = (nat("x"), nat("y")), (odd("x"), odd("y"), ("le", ("y", "x")))
        self.claims(claim)
        for many in range(6):
            things = against(BOOK, claim, many)
            due = "none" if things is None else f"x {term_text(things['x'])} , y {term_text(things['y'])}"
            self.again(f"against a {many}", due)
        self.assertEqual(self.desk.say("against a 3"), "none")
        self.assertEqual(self.desk.say("against a 4"), "x ( zero ) , y ( s ( s ( zero ) ) )")

    def test_always(self):
        """A claim without names that is spoken against, by 0 already; one that isn't."""
        self.claims(((), (odd(ZERO),)), ((), (nat(ZERO),)), ((nat(ZERO),), (odd(s(s(ZERO))),)),
                    ((odd(ZERO),), (odd(ZERO),)))
        for many in range(6):
            for name, due in (("a", "always"), ("b", "none"), ("c", "always"), ("d", "none")):
                self.again(f"against {name} {many}", due)

    def test_first_claim(self):
        """Of a paper of several nodes the first one's claim is asked about."""
        wrong = ((((), (odd(ZERO),)), ("same", 0, 0)),)
        self.keeps(a=SAME + wrong, b=wrong + SAME, c=SAME + wrong + SAME, d=wrong + SAME + wrong)
        for name, due in (("a", "none"), ("b", "always"), ("c", "none"), ("d", "always")):
            self.again(f"against {name} 3", due)
        self.again("claim a", "nat x => nat x")
        self.again("claim b", "=> odd ( zero )")

    def test_names_in_the_names_order(self):
        self.claims(((nat("z"),), (("le", ("z", "y")), odd("a"))), ((), (nat("b"), nat("a"))))
        self.again("against a 5", "z ( zero ) , y ( nil ) , a ( zero )")
        self.again("against b 5", "b ( nil ) , a ( nil )")
        self.again("against b 2", "b ( nil ) , a ( nil )")
        self.again("against b 1", "none")

    def test_right_away(self):
        """A paper needn't stand for its claim to be asked about."""
        self.keeps(a=EVEN_PAPER[:1], b=TO_ITSELF)
        self.again("against a 5", "none")
        self.again("against b 5", "x ( nil )")
        self.again("against b 0", "none")


class Unrolled(Asked):
    def test_told(self):
        self.keeps(a=EVEN_PAPER, b=ALL_FORMS, c=BY_TURNS, d=LISTED)
        self.again("unroll a ( zero )", "0 gone 2")
        self.again("unroll a ( s ( s ( zero ) ) )", "0 gone 6")
        self.again("unroll b ( zero )", f"0 gone {self.gone(ALL_FORMS, ZERO)}")
        self.again(f"unroll b {THREE}", f"0 gone {self.gone(ALL_FORMS, number(3))}")
        self.again("unroll d ( put ( zero ) ( nil ) ) ( zero )", "0 gone 6")

    def gone(self, paper, *row):
        things = dict(zip(names_of(paper[0][0]), row))
        whys = [why_of(BOOK, atom) for atom in atoms_with(paper[0][0][0], things)]
        return unrolled(BOOK, paper, things, whys)[2]

    def test_things_in_the_names_order(self):
        """The claim's first name is z; a place on the right that isn't the first is told."""
        claim = ((nat("z"), ("le", ("a", "z"))), (odd(ZERO), ("le", ("a", "z"))))
        self.keeps(a=((claim, ("same", 1, 1)),))
        self.again(f"unroll a {THREE} ( zero )", "1 gone 1")
        self.again(f"unroll a ( zero ) {THREE}", "not so 1")
        self.again("unroll a ( nil ) ( zero )", "not so 0")
        self.again("unroll a ( put ( zero ) ( nil ) ) ( nil )", "not so 0")

    def test_without_names(self):
        self.keeps(a=((((), (odd(ZERO), nat(ZERO))), ("use", 1, 0, ())),),
                   b=((((odd(ZERO),), (odd(ZERO),)), ("same", 0, 0)),))
        self.again("unroll a", "1 gone 1")
        self.again("unroll b", "not so 0")

    def test_first_that_does_not_hold(self):
        claim = ((nat("x"), odd("x"), nat("x"), odd("x")), (nat("x"),))
        self.keeps(a=((claim, ("same", 0, 0)),))
        self.again("unroll a ( zero )", "not so 1")
        self.again("unroll a ( nil )", "not so 0")
        self.again(f"unroll a {THREE}", "0 gone 1")

    def test_first_whys(self):
        """A number that is one by two rules: the why by the first is taken."""
        text = ("saying two 1 by 0 ; rule ( s x ) ; rule ( s x ) if two x ; "
                "saying yes 1 by 0 ; rule x")
        self.told("book maker zero 0 ; maker s 1 ; " + text, "kept")
        self.told("paper a two x => yes x ; by cases 0 1 2 ; => yes ( s y ) ; by use 0 0 ; "
                  "two y => yes ( s y ) ; by fill 1 with y y lefts rights 0", "nodes 3")
        self.again("look a", "let by")
        for many in range(1, 6):
            self.again(f"unroll a {term_text(number(many))}", "0 gone 2")

    def test_too_long(self):
        """Just at 2,000, and one above."""
        self.keeps(a=calling(3), b=calling(4), c=calling(0))
        for name in "abc":
            self.again("look " + name, "let by")
            self.again(f"unroll {name} {THREE} ( nil )", "not so 1")
        self.again(f"unroll a {THREE} {THREE}", "0 gone 2000")
        self.again(f"unroll b {THREE} {THREE}", "too long")
        self.again(f"unroll c {THREE} {THREE}", "0 gone 1997")
        self.again(f"unroll b {THREE} ( zero )", "0 gone " + str(self.gone(calling(4), number(3), ZERO)))

    def test_things_of_six_makers(self):
        self.keeps(a=ALL_FORMS)
        for thing in all_things(BOOK, 6):
            told = self.desk.say(f"unroll a {term_text(thing)}")
            holds = why_of(BOOK, nat(thing)) is not None
            self.assertEqual(told, f"0 gone {self.gone(ALL_FORMS, thing)}" if holds else "not so 0")


class Rows(Asked):
    """What is none of the rows is refused with NoRow, whatever is kept."""

    NONE = ("", " ", "  ", "   ", "\n", "book", "book ", "paper", "paper ", "paper a", "paper a ",
            "paper  => nat x", "look", "look ", "look  a", "look a ", " look a", "look a b", "look a a",
            "look  ", "Look a", "looka", "look A", "look a1", "look abcdefghi", "look if", "look to",
            "look lefts", "look ( zero )", "look ;", "claim", "claim ", "claim a ", "claim a b",
            "claim  a", "claim if", "against", "against a", "against a ", "against a 6", "against a 00",
            "against a 05", "against a -1", "against a 10", "against a x", "against a 1 1",
            "against a 1 ", "against a  1", "against 1 a", "against 1", "against if 1", "against a +1",
            "against a 5.", "against a ( zero )", "unroll", "unroll ", "unroll a ", "unroll  a",
            "unroll a  ( zero )", "unroll a ( zero ) ", "unroll a ( zero", "unroll a zero )",
            "unroll a ( )", "unroll a ( s x", "unroll a ( zero ) )", "unroll a 1", "unroll a X",
            "unroll a ; ( zero )", "unroll a ( zero ) , ( zero )", "unroll a if", "unroll if ( zero )",
            "unroll a ( s if )", "unroll a abcdefghi", "unroll 1 ( zero )", "none", "a", "kept",
            "nodes 1", "looks a", "books maker zero 0", "paper A => nat x ; by same 0 0",
            "paper if => nat x ; by same 0 0", "paper 1 => nat x ; by same 0 0", "Book maker zero 0",
            "papers a => nat x", "; look a", "look a ; look a", "unroll ( zero )", "paper ; x")

    def test_none_of_the_rows(self):
        for _ in range(2):
            self.refused(NoRow, *self.NONE)
            self.keeps(a=EVEN_PAPER, b=SAME)
        self.again("look a", "let by")

    def test_line_feeds(self):
        """In each row, at each place; and in a text, in which ` ; ` would be right."""
        self.keeps(a=EVEN_PAPER)
        rows = ("look a", "claim a", "against a 3", "unroll a ( zero )", "book maker zero 0",
                "paper b nat x => nat x ; by same 0 0")
        for row in rows:
            for at in range(len(row) + 1):
                self.refused(NoRow, row[:at] + "\n" + row[at:])
        self.refused(NoRow, "book " + book_text(BOOK), "paper b " + paper_text(EVEN_PAPER), "junk\n")
        self.refused(Unknown, "look b", name="b")
        self.again("look a", "let by")

    def test_deep_things(self):
        self.keeps(a=SAME)
        for deep in (30, 31, 400):
            term = "( s " * deep + "( zero )" + " )" * deep
            if deep == 30:
                self.again(f"unroll a {term}", "0 gone 1")
                self.refused(Unknown, f"unroll b {term}", name="b")
            else:
                self.refused(NoRow, f"unroll a {term}", f"unroll b {term}")

    def test_many_brackets(self):
        self.keeps(a=SAME)
        for term in ("( " * 3990, "( s " * 1990 + "x", ") " * 3900 + ")", "( s ) " * 1300 + "x )"):
            self.refused(NoRow, f"unroll a {term}")


class Refusals(Asked):
    def test_unknown(self):
        for _ in range(2):
            for row in ("look b", "claim b", "against b 5", "against b 0", "unroll b",
                        "unroll b ( zero )", "unroll b x ( none x )"):
                self.refused(Unknown, row, name="b")
            self.keeps(a=EVEN_PAPER, c=SAME)

    def test_bad_text_of_a_book(self):
        for text, at in (("maker", 0), ("maker zero 0 ; x", 1), ("saying nat 1 by 0 ; maker zero 0", 1),
                         (" ", 0), ("  ", 0), (" maker zero 0", 0), ("maker zero 0 ", 0),
                         ("maker zero 0 ; maker s 1 ; rule x", 2), ("maker zero  0", 0)):
            self.refused(BadText, "book " + text, row=at)

    def test_bad_text_of_a_paper(self):
        self.keeps()
        for text, at in (("x", 0), ("nat x", 0), ("=> nat x", 1), ("=> nat x ; by", 1), (" ", 0),
                         ("=> nat x ; by same 0 0 ; => nat x", 3), (" => nat x ; by same 0 0", 0),
                         ("=> nat x ; by same 0 0 ", 1), ("=> nat x ; by same 0 0 ; ", 2),
                         ("=> nat x ; by  same 0 0", 1), ("=> nat X ; by same 0 0", 0)):
            self.refused(BadText, "paper a " + text, row=at)

    def test_no_book(self):
        for text, word, name in (
                ("maker zero 0 ; maker zero 0", "twice", "zero"), ("maker s 3", "takes", "s"),
                ("saying nat 0 by 0", "many", "nat"), ("saying nat 1 by 1", "by", "nat"),
                ("saying nat 1 by 0 ; rule x x", "heads", "nat"),
                ("saying nat 1 by 0 ; rule ( zero )", "term", "nat"),
                ("saying nat 1 by 0 ; rule x if odd x", "saying", "nat"),
                ("saying nat 1 by 0 ; rule x if nat x x", "count", "nat"),
                ("saying nat 1 by 0 ; rule x if nat y", "loose", "nat"),
                ("saying nat 1 by 0 ; rule x if nat x", "lesser", "nat")):
            self.refused(NoBook, "book " + text, word=word, name=name)

    def test_paper_ahead_of_a_book(self):
        self.refused(NoRow, paper_row("a", EVEN_PAPER), paper_row("a", SAME))
        self.refused(Unknown, "look a", name="a")

    def test_paper_of_atoms_that_are_not_of_the_book(self):
        """At the first node, or another one: of its claim's left or right."""
        self.keeps()
        for atom in (("other", ("x",)), ("nat", ("x", "x")), ("le", ("x",)), ("nat", (("none",),)),
                     ("nat", (("s",),)), ("nat", (s(("zero", "x")),)), ("plus", ("x", "y"))):
            one = (((atom,), (nat("x"),)), ("same", 0, 0))
            other = (((), (nat("x"), atom)), ("same", 0, 0))
            for node in (one, other):
                self.refused(NoRow, paper_row("a", (node,)), paper_row("a", SAME + (node,)),
                             paper_row("a", EVEN_PAPER + (node,)))
        self.refused(Unknown, "look a", name="a")

    def test_unroll_of_a_paper_that_is_not_let_by(self):
        self.keeps(a=TO_ITSELF, b=EVEN_PAPER[:4], c=ONE_WAY, d=net_of_fills(0, 24, 5))
        self.refused(NoRow, "unroll a ( zero )", "unroll b ( zero )", "unroll c ( zero )",
                     "unroll d ( zero )", "unroll d " + THREE)
        self.again("look d", "too many")

    def test_unroll_with_other_things(self):
        self.keeps(a=EVEN_PAPER, b=BY_TURNS, c=((((), (nat(ZERO),)), ("use", 0, 0, ())),))
        self.refused(NoRow, "unroll a", "unroll a ( zero ) ( zero )", "unroll b ( zero )", "unroll b",
                     "unroll b ( zero ) ( zero ) ( zero )", "unroll c ( zero )", "unroll c x",
                     "unroll a x", "unroll a ( s x )", "unroll a ( none )", "unroll a ( s )",
                     "unroll a ( zero ( zero ) )", "unroll a ( s ( none ) )", "unroll a zero",
                     "unroll a ( s ( zero ) ( zero ) )", "unroll b ( zero ) x", "unroll b y ( zero )",
                     "unroll b ( put ( nil ) ) ( zero )", "unroll b ( zero ) ( nat )")

    def test_no_row_ahead_of_unknown(self):
        self.keeps(a=SAME)
        self.refused(NoRow, "look b c", "claim b ", "against b 6", "unroll b ( zero", "unroll b ",
                     "unroll b X", "look b\n", "against b", "look B")

    def test_unknown_ahead_of_no_row(self):
        """A term that is no thing of the book's is looked at behind the name."""
        self.keeps(a=EVEN_PAPER)
        for row in ("unroll b x", "unroll b ( none )", "unroll b", "unroll b ( zero ) ( zero )"):
            self.refused(Unknown, row, name="b")

    def test_bad_text_ahead_of_no_book(self):
        self.refused(BadText, "book maker zero 0 ; maker zero 0 ; x", "book maker s 9 ; maker zero 0 ; ",
                     row=2)

    def test_bad_text_ahead_of_no_row(self):
        """Ahead of a book, and where claims are of other atoms."""
        self.refused(BadText, "paper a => nat x", row=1)
        self.refused(BadText, "paper a x", "paper a ;", row=0)
        self.keeps()
        self.refused(BadText, "paper a => other x", row=1)
        self.refused(BadText, "paper a => other x ; by same 0 0 ; x", row=2)

    def test_no_row_ahead_of_bad_text(self):
        self.keeps()
        self.refused(NoRow, "paper A x", "paper a", "paper a ", "paper  x", "book ", "paper if x",
                     "paper a x\n", "book x\n")


class KeptBehindARefusal(Asked):
    def test_each_refusal(self):
        self.keeps(a=EVEN_PAPER, b=TO_ITSELF)
        for refusal, row in (
                (NoRow, "book"), (BadText, "book x"), (NoBook, "book maker s 7"),
                (NoBook, "book maker zero 0 ; maker zero 0"), (BadText, "book maker zero 0 ; "),
                (BadText, "paper a x"), (BadText, "paper a => nat x"), (NoRow, "paper a"),
                (NoRow, paper_row("a", NOT_OF_THE_BOOK)), (NoRow, paper_row("c", NOT_OF_THE_BOOK)),
                (Unknown, "look c"), (Unknown, "unroll c"), (NoRow, "unroll b ( zero )"),
                (NoRow, "unroll a x"), (NoRow, "look"), (BadText, "paper c  "), (NoRow, "\n")):
            self.refused(refusal, row)
            self.again("claim a", "even x => nat x")
            self.again("look a", "let by")
            self.again("unroll a ( s ( s ( zero ) ) )", "0 gone 6")
            self.again("look b", "loose 0")
            self.again("against b 1", "x ( nil )")
            self.refused(Unknown, "claim c", name="c")
        self.told(paper_row("c", SAME), "nodes 1")
        self.again("look c", "let by")

    def test_by_chance(self):
        """A desk that is asked with all rows tells what one tells that isn't asked with wrong ones."""
        rows = [book_row(BOOK), book_row(GROWING), book_row(BOOK), "book maker zero 0 ; x", "book x",
                "book maker s 5", "paper a x", "paper a => nat x", paper_row("b", NOT_OF_THE_BOOK),
                "unroll a", "unroll b ( zero ) ( zero )", "against a 9", "", "look", "look a ", "paper a"]
        for name in "abc":
            rows += [paper_row(name, paper) for paper in (EVEN_PAPER, SAME, TO_ITSELF, FULL_PAPER)]
            rows += [row + name for row in ("look ", "claim ")]
            rows += [f"against {name} {many}" for many in (0, 2, 5)]
            rows += [f"unroll {name} {thing}" for thing in ("( zero )", "( s ( s ( zero ) ) )", "x")]
        for seed in range(60):
            rng = random.Random(seed)
            desk, right = Desk(), Desk()
            refused = 0
            for _ in range(40):
                row = rng.choice(rows)
                try:
                    told = desk.say(row)
                except (BadText, NoBook, NoRow, Unknown):
                    refused += 1
                else:
                    self.assertEqual(right.say(row), told)
            self.assertGreater(refused, 3)


class AsAlone(Asked):
    def test_as_the_functions_tell(self):
        """What is told at a desk is what the functions tell of the same."""
        for _, book, paper, things, _ in runs_of_nets(range(30)):
            self.keeps(book, a=paper)
            self.told("claim a", claim_text(paper[0][0]))
            row = " ".join(["unroll a", *[term_text(things[name]) for name in names_of(paper[0][0])]])
            j, _, gone = unrolled(book, paper, things, [why_of(book, atom) for atom
                                                        in atoms_with(paper[0][0][0], things)])
            if self.desk.say("look a") == "let by":
                self.again(row, f"{j} gone {gone}")
            self.assertIsNone(against(book, paper[0][0], 3))
            self.told("against a 3", "none")


if __name__ == "__main__":
    unittest.main()
