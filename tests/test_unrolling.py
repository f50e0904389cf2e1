"""Unrolling papers (points 15 and 16): what is told, how whys and things go along."""

import random
import time
import unittest

import samples
from leanround.bare import bare, run_bare
from leanround.errors import TooLong
from leanround.papers import paper_stands
from leanround.ties import ties_of
from leanround.unrolling import Unrolling, unrolled
from leanround.whys import is_why, why_of
from plainly import atoms_with
from plainly_run import plainly_unrolled
from sample_papers import ALL_FORMS, BY_TURNS, EVEN_PAPER, TO_ITSELF, even, nat, odd, s
from sample_runs import (
    BOTH_PAPER, FULL_PAPER, GROWING, LISTED, ONE_WAY, WIDE_PAPER, full, runs_by_chance,
    runs_of_nets)
from samples import BOOK, ZERO, number, row

SHORT = 5
NIL = ("nil",)


def listed(term):
    return ("list", (term,))


def twice(term):
    return ("twice", (term,))


def whys_for(book, paper, things):
    return tuple([why_of(book, atom) for atom in atoms_with(paper[0][0][0], things)])


class Runs(unittest.TestCase):
    def ends(self, paper, things, j, gone, book=BOOK):
        """Unrolls by first whys, in all ways to ask; tells the why told."""
        whys = whys_for(book, paper, things)
        return self.ends_by(paper, things, whys, j, gone, book)

    def ends_by(self, paper, things, whys, j, gone, book=BOOK):
        self.assertIsNone(paper_stands(book, paper))
        told, rows = plainly_unrolled(book, paper, things, whys)
        self.assertEqual((told[0], told[2]), (j, gone))
        self.walk(book, paper, things, whys, told, rows)
        for given in (whys, list(whys)):
            self.assertEqual(unrolled(book, paper, things, given), told)
            self.assertEqual(unrolled(book, paper, dict(reversed(things.items())), given, gone),
                             told)
            self.assertEqual(unrolled(whys=given, things=things, most=gone, paper=paper,
                                      book=book), told)
        if gone > 1:
            self.too_long(book, paper, things, whys, gone - 1)
        self.right(book, paper, rows)
        (_, right), _ = paper[0]
        self.assertIs(is_why(book, told[1], atoms_with(right, things)[told[0]]), True)
        return told[1]

    def walk(self, book, paper, things, whys, told, rows):
        """An Unrolling goes by these rows, whether it is asked where it stands or not."""
        walked, blind = Unrolling(book, paper, things, whys), Unrolling(book, paper, things, whys)
        rng = random.Random(len(rows))
        for many, told_row in enumerate(rows):
            for unrolling in (walked, blind):
                self.assertEqual(len(unrolling), many)
                self.assertIsNone(unrolling.outcome())
            for _ in range(2):
                self.stands(walked, told_row)
            if rng.random() < 0.2:
                self.stands(blind, told_row)
            self.assertIs(walked.turn(), True)
            self.assertIs(blind.turn(), True)
        for unrolling in (walked, blind):
            for _ in range(2):
                self.assertIsNone(unrolling.stand())
                self.assertIs(unrolling.turn(), False)
                self.assertEqual(unrolling.outcome(), told[:2])
                self.assertEqual(len(unrolling), told[2])

    def stands(self, unrolling, told_row):
        n, things, whys = unrolling.stand()
        self.assertEqual((n, things, whys), told_row[:3])
        self.assertIs(things.__class__, dict)
        self.assertIs(whys.__class__, tuple)
        things.clear()

    def too_long(self, book, paper, things, whys, most):
        for told in (lambda: unrolled(book, paper, things, whys, most),
                     lambda: unrolled(book, paper, things, whys, most=most)):
            with self.assertRaises(TooLong) as caught:
                told()
            self.assertEqual(caught.exception.most, most)

    def right(self, book, paper, rows):
        """At each node are whys of its left; along ties go the same ones, or parts."""
        for n, things, whys, ahead, k in rows:
            left = atoms_with(paper[n][0][0], things)
            self.assertEqual(len(left), len(whys))
            for atom, why in zip(left, whys):
                self.assertIs(is_why(book, why, atom), True)
            if ahead is None:
                continue
            m, _, whys_there, _, _ = rows[ahead]
            for a, b, falls in ties_of(book, paper[m])[k].arcs():
                if falls:
                    self.assertIn(whys[b], whys_there[a][1])
                else:
                    self.assertEqual(whys[b], whys_there[a])


class OneStep(Runs):
    def test_same(self):
        things = {"x": number(2), "y": number(1)}
        left, right = (nat("x"), nat("y")), (even("x"), nat("y"), nat("x"))
        self.assertEqual(self.ends((((left, right), ("same", 1, 1)),), things, 1, 1),
                         why_of(BOOK, nat(number(1))))
        self.assertEqual(self.ends((((left, right), ("same", 0, 2)),), things, 2, 1),
                         why_of(BOOK, nat(number(2))))

    def test_use_without_needs(self):
        paper = ((((), (nat("x"), even(ZERO))), ("use", 1, 0, ())),)
        self.assertEqual(self.ends(paper, {"x": NIL}, 1, 1), (0, ()))

    def test_cases_without_goals(self):
        """Of a saying that never holds nothing is gone into: so it ends at a use here."""
        paper = ((((nat("x"),), (nat("x"), even(ZERO))), ("put", odd(ZERO), 1, 2)),
                 (((nat("x"),), (nat("x"), even(ZERO), odd(ZERO))), ("use", 1, 0, ())),
                 (((nat("x"), odd(ZERO)), (nat("x"), even(ZERO))), ("cases", 1, (None,))))
        self.assertEqual(self.ends(paper, {"x": number(3)}, 1, 2), (0, ()))


class Cases(Runs):
    """Cases of a rule without needs, with one and with two, at each place of the left."""

    def check(self, atom, r, needs, things):
        others = (nat("u"), even("v"))
        worth = {"u": number(2), "v": number(4), **things}
        for i in range(3):
            left = others[:i] + (atom,) + others[i:]
            inner = others[:i] + needs + others[i:]
            many = {"nat": 2, "list": 2, "le": 2}[atom[0]]
            goals = tuple([1 if rule == r else None for rule in range(many)])
            for at, told in enumerate(inner):
                paper = (((left, (told,)), ("cases", i, goals)), ((inner, (told,)), ("same", at, 0)))
                why = self.ends(paper, worth, 0, 2)
                self.assertEqual(why, why_of(BOOK, atoms_with((told,), worth)[0]))

    def test_without_needs(self):
        self.check(nat(ZERO), 0, (), {})
        self.check(listed(NIL), 0, (), {})

    def test_with_one(self):
        self.check(nat(s("p")), 1, (nat("p"),), {"p": number(3)})

    def test_with_two(self):
        self.check(listed(("put", "p", "q")), 1, (nat("p"), listed("q")),
                   {"p": number(1), "q": row(number(2), number(1))})

    def test_as_the_why_has_it(self):
        """Which case is gone into is told by the why: here one thing has whys by both rules."""
        book = (BOOK[0], (("twice", 1, 0, (((s("x"),), ()), ((s("x"),), (("twice", ("x",)),)))),))
        paper = ((((twice("x"),), (twice(s(s("x"))),)), ("cases", 0, (1, 2))),
                 (((), (twice(s(s(s("y")))),)), ("use", 0, 0, ())),
                 (((twice("y"),), (twice(s(s(s("y")))),)), ("use", 0, 1, (3,))),
                 (((twice("y"),), (twice(s(s("y"))),)), ("use", 0, 1, (4,))),
                 (((twice("y"),), (twice(s("y")),)), ("use", 0, 1, (5,))),
                 (((twice("y"),), (twice("y"),)), ("same", 0, 0)))
        things = {"x": number(2)}
        self.assertEqual(self.ends_by(paper, things, ((0, ()),), 0, 2, book), (0, ()))
        self.assertEqual(self.ends_by(paper, things, ((1, ((0, ()),)),), 0, 5, book),
                         (1, ((1, ((1, ((0, ()),)),)),)))


class Uses(Runs):
    LEFT = (nat("p"), listed("q"), nat("c"))
    RIGHT = (("list", (("put", "p", "q"),)), nat("c"))
    THINGS = {"p": number(1), "q": row(number(2)), "c": number(3)}

    def paper(self, first, second):
        left, (_, behind) = self.LEFT, self.RIGHT
        return (((left, self.RIGHT), ("use", 0, 1, (1, 2))),
                ((left, (nat("p"), behind)), first), ((left, (listed("q"), behind)), second))

    def test_all_told(self):
        why = self.ends(self.paper(("same", 0, 0), ("same", 1, 0)), self.THINGS, 0, 3)
        self.assertEqual(why, why_of(BOOK, listed(row(number(1), number(2)))))

    def test_another_place_by_the_first_goal(self):
        why = self.ends(self.paper(("same", 2, 1), ("same", 1, 0)), self.THINGS, 1, 2)
        self.assertEqual(why, why_of(BOOK, nat(number(3))))

    def test_another_place_by_the_second_goal(self):
        why = self.ends(self.paper(("same", 0, 0), ("same", 2, 1)), self.THINGS, 1, 3)
        self.assertEqual(why, why_of(BOOK, nat(number(3))))

    def test_uses_within_uses(self):
        """Where one within tells another place, that goes on through both."""
        left = (nat("a"), nat("b"))
        twice = ("list", (("put", s("a"), NIL),))
        for last, told, j, gone in ((("same", 0, 1), number(2), 1, 4), (("same", 1, 0), 1, 0, 3)):
            paper = (((left, (nat("b"), twice)), ("use", 1, 1, (1, 2))),
                     ((left, (nat("b"), nat(s("a")))), ("use", 1, 1, (3,))),
                     ((left, (nat("b"), listed(NIL))), ("use", 1, 0, ())),
                     ((left, (nat("b"), nat("a"))), last))
            why = self.ends(paper, {"a": number(1), "b": number(5)}, j, gone)
            self.assertEqual(why, why_of(BOOK, nat(number(5)) if j == 0 else listed(row(told))))


class Puts(Runs):
    LEFT = (nat("x"), nat("y"))
    RIGHT = (even("x"), nat("y"), nat("x"))

    def paper(self, first, second=("same", 1, 1)):
        atom = nat(s("x"))
        return (((self.LEFT, self.RIGHT), ("put", atom, 1, 2)),
                ((self.LEFT, self.RIGHT + (atom,)), first),
                ((self.LEFT + (atom,), self.RIGHT), second),
                ((self.LEFT, self.RIGHT + (nat("x"),)), ("same", 0, 3)),
                ((self.LEFT + (nat("x"),), self.RIGHT), ("same", 2, 2)))

    def test_another_atom(self):
        things = {"x": number(1), "y": number(4)}
        self.assertEqual(self.ends(self.paper(("same", 1, 1)), things, 1, 2),
                         why_of(BOOK, nat(number(4))))

    def test_the_put_atom(self):
        """It is told by a use; then the other goal has this why behind the others."""
        things = {"x": number(1), "y": number(4)}
        paper = self.paper(("use", 3, 1, (3,)), ("cases", 2, (None, 4)))
        self.assertEqual(self.ends(paper, things, 2, 5), why_of(BOOK, nat(number(1))))
        whys = [why[2] for why in plainly_unrolled(BOOK, paper, things,
                                                   whys_for(BOOK, paper, things))[1]]
        self.assertEqual([len(row) for row in whys], [2, 2, 2, 3, 3])

    def test_a_put_within_one(self):
        inner = odd(s(ZERO))
        claim = self.LEFT, self.RIGHT
        atom = nat(ZERO)
        paper = ((claim, ("put", atom, 1, 3)),
                 ((self.LEFT, self.RIGHT + (atom,)), ("put", inner, 2, 4)),
                 ((self.LEFT, self.RIGHT + (atom, inner)), ("use", 4, 0, (5,))),
                 ((self.LEFT + (atom,), self.RIGHT), ("same", 0, 2)),
                 ((self.LEFT + (inner,), self.RIGHT + (atom,)), ("use", 3, 0, ())),
                 ((self.LEFT, self.RIGHT + (atom, even(ZERO))), ("use", 4, 0, ())))
        things = {"x": number(2), "y": number(1)}
        self.assertEqual(self.ends(paper, things, 2, 6), why_of(BOOK, nat(number(2))))
        ends = (*paper[:2], (paper[2][0], ("use", 3, 0, ())), *paper[3:])
        self.assertEqual(self.ends(ends, things, 2, 4), why_of(BOOK, nat(number(2))))


class Fills(Runs):
    LEFT = (nat("x"), even("y"), nat("z"))
    RIGHT = (even("y"), nat("z"), nat("x"), odd("x"))
    THINGS = {"x": number(3), "y": number(4), "z": number(6)}

    def fill(self, claim, step, pairs, lefts, rights):
        return (((self.LEFT, self.RIGHT), ("fill", 1, pairs, lefts, rights)), (claim, step))

    def test_another_order(self):
        claim = ((nat("a"), nat("b"), even("c")), (nat("a"), nat("b"), even("c")))
        pairs = (("a", "z"), ("b", "x"), ("c", "y"))
        for at, j, many in ((0, 1, 6), (1, 2, 3)):
            paper = self.fill(claim, ("same", at, at), pairs, (2, 0, 1), (1, 2, 0))
            self.assertEqual(self.ends(paper, self.THINGS, j, 2), why_of(BOOK, nat(number(many))))
        paper = self.fill(claim, ("same", 2, 2), pairs, (2, 0, 1), (1, 2, 0))
        self.assertEqual(self.ends(paper, self.THINGS, 0, 2), why_of(BOOK, even(number(4))))

    def test_twice(self):
        claim = ((nat("a"), nat("b"), nat("a")), (nat("b"), nat("a")))
        pairs = (("a", "x"), ("b", "x"))
        for i, j in ((0, 1), (1, 0), (2, 1)):
            paper = self.fill(claim, ("same", i, j), pairs, (0, 0, 0), (2, 2))
            self.assertEqual(self.ends(paper, self.THINGS, 2, 2), why_of(BOOK, nat(number(3))))

    def test_left_out(self):
        claim = ((nat("x"),), (nat("x"),))
        paper = self.fill(claim, ("same", 0, 0), (("x", "z"),), (2,), (1,))
        self.assertEqual(self.ends(paper, self.THINGS, 1, 2), why_of(BOOK, nat(number(6))))
        claim = ((), (nat(s("x")), even(ZERO)))
        paper = ((((nat("y"),), (nat(s("y")), nat(s(s("y"))), even(ZERO))),
                  ("fill", 1, (("x", s("y")),), (), (1, 2))), (claim, ("use", 1, 0, ())))
        self.assertEqual(self.ends(paper, {"y": number(1)}, 2, 2), (0, ()))

    def test_terms(self):
        claim = ((nat("a"), nat(s("b"))), (nat("a"),))
        left, right = (nat(s("x")),), (nat(s("x")), nat("x"))
        paper = (((left, right), ("fill", 1, (("a", s("x")), ("b", "x")), (0, 0), (0,))),
                 (claim, ("same", 1, 0)))
        self.assertIsNotNone(paper_stands(BOOK, paper))
        paper = (paper[0], (claim, ("same", 0, 0)))
        self.assertEqual(self.ends(paper, {"x": number(1)}, 0, 2), why_of(BOOK, nat(number(2))))

    def test_fill_within_fill(self):
        one = ((nat("b"), nat("a")), (nat("a"), nat("b")))
        paper = ((((nat("x"), nat("y")), (nat("x"), nat("y"))),
                  ("fill", 1, (("b", "y"), ("a", "x")), (1, 0), (0, 1))),
                 (one, ("fill", 2, (("b", "a"), ("a", "b")), (1, 0), (1, 0))),
                 (one, ("same", 0, 1)))
        things = {"x": number(1), "y": number(2)}
        self.assertEqual(self.ends(paper, things, 0, 3), why_of(BOOK, nat(number(1))))


class Things(Runs):
    """The things at each node are by the names of its own claim."""

    def stood(self, paper, things, book=BOOK):
        unrolling = Unrolling(book, paper, things, whys_for(book, paper, things))
        rows = []
        while unrolling.stand() is not None:
            rows.append(unrolling.stand()[:2])
            unrolling.turn()
        return rows

    def test_names_exchanged_on_the_way(self):
        three, two, one = number(3), number(2), number(1)
        rows = self.stood(BY_TURNS, {"y": two, "x": three})
        self.assertEqual(rows[:5], [
            (0, {"x": three, "y": two}), (2, {"x": two, "y": two}), (3, {"x": two, "y": two}),
            (0, {"x": two, "y": two}), (2, {"x": one, "y": two})])
        self.assertEqual(rows[5:9], [
            (3, {"x": one, "y": two}), (0, {"x": two, "y": one}), (2, {"x": one, "y": one}),
            (3, {"x": one, "y": one})])

    def test_other_names(self):
        """The goal's claim has names of its own, that of the rule, or that of another one."""
        for name, other in (("w", "v"), ("x", "y"), ("y", "x"), ("a", "x")):
            left, right = (nat("x"), nat("y")), (nat("x"), nat("y"))
            paper = (((left, right), ("cases", 0, (1, 2))),
                     (((nat(name),), (nat(ZERO), nat(name))), ("same", 0, 1)),
                     (((nat(name), nat(other)), (nat(s(name)), nat(other))), ("same", 1, 1)))
            things = {"x": number(4), "y": number(2)}
            self.assertEqual(self.stood(paper, things)[1:],
                             [(2, {name: number(3), other: number(2)})])
            self.ends(paper, things, 1, 2)
            things = {"x": ZERO, "y": number(2)}
            self.assertEqual(self.stood(paper, things)[1:], [(1, {name: number(2)})])

    def test_more_names_and_none(self):
        rows = self.stood(LISTED, {"z": row(number(2), number(1)), "c": ZERO})
        self.assertEqual(rows, [
            (0, {"z": row(number(2), number(1)), "c": ZERO}),
            (2, {"a": number(2), "b": row(number(1)), "c": ZERO}),
            (3, {"a": number(2), "b": row(number(1)), "c": ZERO}),
            (4, {"a": number(2), "b": row(number(1)), "c": ZERO}),
            (0, {"z": row(number(1)), "c": ZERO}),
            (2, {"a": number(1), "b": NIL, "c": ZERO}),
            (3, {"a": number(1), "b": NIL, "c": ZERO}),
            (4, {"a": number(1), "b": NIL, "c": ZERO}),
            (0, {"z": NIL, "c": ZERO}), (1, {"c": ZERO})])
        self.assertEqual(self.stood(EVEN_PAPER, {"x": ZERO}), [(0, {"x": ZERO}), (1, {})])

    def test_names_that_go_with_a_use(self):
        """A name that stands in the head alone is none of the goal's claim."""
        rows = self.stood(ALL_FORMS, {"x": number(1)})
        self.assertEqual(rows[:2], [(0, {"x": number(1)}), (1, {"x": number(1)})])
        book = (BOOK[0], (("first", 2, 0, (((s("x"), "y"), (("none", ("x",)),)),)),
                          ("none", 1, 0, ((("x",), ()),))))
        paper = ((((), (("first", (s("a"), "b")),)), ("use", 0, 0, (1,))),
                 (((), (("none", ("a",)),)), ("use", 0, 0, ())))
        self.assertEqual(self.stood(paper, {"b": NIL, "a": ZERO}, book),
                         [(0, {"a": ZERO, "b": NIL}), (1, {"a": ZERO})])

    def test_heads_with_one_name_twice(self):
        """Where the heads are fitted, names of the claim become one."""
        left, right = (("le", ("x", "y")), nat("x")), (nat("y"),)
        paper = (((left, right), ("cases", 0, (1, 2))),
                 (((nat("y"),), (nat("y"),)), ("same", 0, 0)),
                 (((("le", ("x", "z")), nat("x")), (nat(s("z")),)), ("use", 0, 1, (3,))),
                 (((("le", ("x", "z")), nat("x")), (nat("z"),)),
                  ("fill", 0, (("x", "x"), ("y", "z")), (0, 1), (0,))))
        things = {"x": number(1), "y": number(3)}
        self.assertEqual(self.stood(paper, things)[:4], [
            (0, things), (2, {"x": number(1), "z": number(2)}),
            (3, {"x": number(1), "z": number(2)}), (0, {"x": number(1), "y": number(2)})])
        self.assertEqual(self.stood(paper, things)[-1], (1, {"y": number(1)}))
        self.ends(paper, things, 0, 8)

    def test_term_in_the_place_of_a_name(self):
        left = (nat("x"),)
        paper = (((left, (("wide", (ZERO, "x")), nat("x"))),
                  ("fill", 1, (("y", "x"), ("x", "x")), (0,), (0, 1))),
                 (((nat("y"),), (("wide", (ZERO, "x")), nat("y"))), ("use", 0, 0, ())))
        rows = self.stood(paper, {"x": number(1)}, GROWING)
        self.assertEqual(rows[1], (1, {"y": number(1), "x": number(1)}))
        two = number(2)
        rows = self.stood(WIDE_PAPER, {"x": number(1), "y": two}, GROWING)
        self.assertEqual(rows[3:], [(0, {"x": ZERO, "y": ("two", two, two)}),
                                    (1, {"y": ("two", two, two)})])


class Handed(Runs):
    def test_changed_behind(self):
        things, whys = {"x": number(3)}, [why_of(BOOK, nat(number(3)))]
        due = unrolled(BOOK, ALL_FORMS, things, whys)
        unrolling = Unrolling(BOOK, ALL_FORMS, things, whys)
        things.clear()
        whys.clear()
        while unrolling.turn():
            told = unrolling.stand()
            if told is not None:
                told[1].clear()
        self.assertEqual((*unrolling.outcome(), len(unrolling)), due)

    def test_left_as_they_were(self):
        things, whys = {"x": number(4)}, [why_of(BOOK, even(number(4)))]
        for _ in range(2):
            unrolled(BOOK, EVEN_PAPER, things, whys)
            unrolling = Unrolling(whys=whys, things=things, paper=EVEN_PAPER, book=BOOK)
            while unrolling.turn():
                unrolling.stand()
        self.assertEqual((things, whys), ({"x": number(4)}, [why_of(BOOK, even(number(4)))]))

    def test_by_turns(self):
        """Two Unrollings of one paper, and one of another, each go their own way."""
        given = [(EVEN_PAPER, {"x": number(4)}), (EVEN_PAPER, {"x": number(2)}),
                 (ALL_FORMS, {"x": number(3)}), (EVEN_PAPER, {"x": number(4)})]
        rows = [plainly_unrolled(BOOK, paper, things, whys_for(BOOK, paper, things))
                for paper, things in given]
        runs = [Unrolling(BOOK, paper, things, whys_for(BOOK, paper, things))
                for paper, things in given]
        for turn in range(max([len(row) for _, row in rows])):
            for (told, gone), unrolling in zip(rows, runs):
                if turn < len(gone):
                    self.assertEqual(unrolling.stand(), gone[turn][:3])
                    self.assertIs(unrolling.turn(), True)
                else:
                    self.assertEqual(unrolling.outcome(), told[:2])
                    self.assertIs(unrolling.turn(), False)

    def test_told_with_place_and_why_alike(self):
        """The outcome of a place and a why that look like no truth is told as such."""
        unrolling = Unrolling(BOOK, ((((), (even(ZERO),)), ("use", 0, 0, ())),), {}, ())
        self.assertIs(unrolling.turn(), True)
        self.assertEqual(unrolling.outcome(), (0, (0, ())))
        self.assertIs(unrolling.turn(), False)


class Longest(Runs):
    def numbers(self, many):
        return {"x": number(many)}, (why_of(BOOK, nat(number(many))),)

    def test_left_out(self):
        """5,000 where it is left out."""
        paper = ((((), (nat("x"),)), ("fill", 0, (("x", "x"),), (), (0,))),)
        with self.assertRaises(TooLong) as caught:
            unrolled(BOOK, paper, {"x": ZERO}, ())
        self.assertEqual(caught.exception.most, 5000)
        for most in (1, 2, 10000):
            self.too_long(BOOK, paper, {"x": ZERO}, (), most)

    def test_just_as_many_and_one_fewer(self):
        chain = chain_paper(4999)
        self.assertEqual(unrolled(BOOK, chain, {"x": ZERO}, ((0, ()),)), (0, (0, ()), 5000))
        self.assertEqual(unrolled(BOOK, chain, {"x": ZERO}, ((0, ()),), 5000)[2], 5000)
        self.too_long(BOOK, chain, {"x": ZERO}, ((0, ()),), 4999)
        chain = chain_paper(5000)
        with self.assertRaises(TooLong) as caught:
            unrolled(BOOK, chain, {"x": ZERO}, ((0, ()),))
        self.assertEqual(caught.exception.most, 5000)
        self.assertEqual(unrolled(BOOK, chain, {"x": ZERO}, ((0, ()),), most=5001)[2], 5001)

    def test_a_let_by_paper_that_goes_far(self):
        """Each number goes by two goals to the one below: over 5,000 nodes are gone into."""
        paper = twice_paper()
        things = {"x": number(10)}
        whys = (why_of(GROWING, nat(number(10))),)
        j, why, gone = unrolled(GROWING, paper, things, whys, 10000)
        self.assertEqual((j, gone), (0, 5 * 2 ** 10 - 3))
        self.assertEqual(why, why_of(GROWING, full(number(10))))
        self.too_long(GROWING, paper, things, whys, gone - 1)
        with self.assertRaises(TooLong) as caught:
            unrolled(GROWING, paper, things, whys)
        self.assertEqual(caught.exception.most, 5000)
        few = {"x": number(5)}
        whys = (why_of(GROWING, nat(number(5))),)
        self.ends_by(paper, few, whys, 0, unrolled(GROWING, paper, few, whys)[2], GROWING)

    def test_not_let_by_and_its_ring_not_come_to(self):
        things, whys = self.numbers(0)
        self.assertEqual(unrolled(BOOK, ONE_WAY, things, whys, 2), (1, (0, ()), 2))
        things, whys = self.numbers(1)
        self.too_long(BOOK, ONE_WAY, things, whys, 77)

    def test_not_let_by_goes_on_however_many(self):
        unrolling = Unrolling(BOOK, TO_ITSELF, {"x": number(2)}, ())
        for many in range(20000):
            self.assertEqual(len(unrolling), many)
            self.assertIs(unrolling.turn(), True)
            self.assertIsNone(unrolling.outcome())
        self.assertEqual(unrolling.stand(), (0, {"x": number(2)}, ()))


def chain_paper(many):
    """A paper of so many fills, one behind the other, and a same."""
    claim = ((nat("x"),), (nat("x"),))
    fills = [(claim, ("fill", n + 1, (("x", "x"),), (0,), (0,))) for n in range(many)]
    return (*fills, (claim, ("same", 0, 0)))


def twice_paper():
    """Each number is full, gone into twice for each that it is above."""
    return (
        (((nat("x"),), (full("x"),)), ("cases", 0, (1, 2))),
        (((), (full(ZERO),)), ("use", 0, 0, ())),
        (((nat("x"),), (full(s("x")),)), ("use", 0, 1, (3, 0))),
        (((nat("x"),), (full("x"),)), ("fill", 0, (("x", "x"),), (0,), (0,))),
    )


class InShortTime(Runs):
    def soon(self, began):
        self.assertLess(time.perf_counter() - began, SHORT)

    def parts_in_all(self, why):
        """How deep a why is whose two parts are one and the same, throughout."""
        deep = 0
        while why[1]:
            self.assertIs(why[1][0], why[1][1])
            why = why[1][0]
            deep += 1
        return deep

    def test_whys_that_grow(self):
        began = time.perf_counter()
        things, whys = {"x": number(60)}, (why_of(GROWING, nat(number(60))),)
        j, why, gone = unrolled(GROWING, FULL_PAPER, things, whys)
        self.assertEqual((j, gone, self.parts_in_all(why)), (0, 2 + 60 * 6, 60))
        unrolling = Unrolling(GROWING, FULL_PAPER, things, whys)
        while unrolling.stand() is not None:
            unrolling.turn()
        self.assertEqual(len(unrolling), gone)
        self.assertEqual(self.parts_in_all(unrolling.outcome()[1]), 60)
        self.assertEqual(run_bare(bare(FULL_PAPER), whys)[2], gone)
        self.soon(began)
        self.ends_by(FULL_PAPER, {"x": number(4)}, whys_for(GROWING, FULL_PAPER, {"x": number(4)}),
                     0, 26, GROWING)

    def test_things_that_grow(self):
        began = time.perf_counter()
        things = {"x": number(60), "y": number(3)}
        unrolling = Unrolling(GROWING, WIDE_PAPER, things, (why_of(GROWING, nat(number(60))),))
        last = None
        while unrolling.stand() is not None:
            last = unrolling.stand()
            unrolling.turn()
        n, told, whys = last
        self.assertEqual((n, list(told), whys, len(unrolling)), (1, ["y"], (), 182))
        thing, deep = told["y"], 0
        while thing[0] == "two":
            self.assertIs(thing[1], thing[2])
            thing, deep = thing[1], deep + 1
        self.assertEqual((thing, deep), (number(3), 60))
        self.soon(began)

    def test_things_that_grow_in_cases(self):
        """The saying's first rule has one name twice, of things that can't be gone through."""
        why = (0, ())
        for _ in range(60):
            why = (1, (why,))
        began = time.perf_counter()
        things = {"x": number(60), "y": ZERO, "z": ZERO}
        unrolling = Unrolling(GROWING, BOTH_PAPER, things, (why,))
        while unrolling.stand() is not None:
            unrolling.turn()
        self.assertEqual((unrolling.outcome()[0], len(unrolling)), (0, 182))
        self.soon(began)

    def test_ten_thousand(self):
        began = time.perf_counter()
        pairs = (("x", "x"), ("y", s("y")))
        grown = (((nat("x"), nat("y")), (odd(ZERO),)), ("put", nat(s("y")), 1, 2))
        more = (((nat("x"), nat("y")), (odd(ZERO), nat(s("y")))), ("use", 1, 1, (3,)))
        back = (((nat("x"), nat("y"), nat(s("y"))), (odd(ZERO),)), ("fill", 0, pairs, (0, 2), (0,)))
        end = (((nat("x"), nat("y")), (odd(ZERO), nat("y"))), ("same", 1, 1))
        paper = (grown, more, back, end)
        self.assertIsNone(paper_stands(BOOK, paper))
        things = {"x": ZERO, "y": ZERO}
        self.too_long(BOOK, paper, things, ((0, ()), (0, ())), 10000)
        unrolling = Unrolling(BOOK, paper, things, ((0, ()), (0, ())))
        for _ in range(10000):
            self.assertIsNotNone(unrolling.stand())
            self.assertIs(unrolling.turn(), True)
        n, told, whys = unrolling.stand()
        deep = 0
        thing, why = told["y"], whys[1]
        while thing != ZERO and deep < 3000:
            thing, why, deep = thing[1], why[1][0], deep + 1
        self.assertEqual((n, deep, why), (0, 2500, (0, ())))
        self.soon(began)

    def test_ten_thousand_that_wait(self):
        began = time.perf_counter()
        self.assertEqual(unrolled(BOOK, chain_paper(9999), {"x": ZERO}, ((0, ()),), 10000),
                         (0, (0, ()), 10000))
        unrolling = Unrolling(BOOK, chain_paper(9999), {"x": number(5)},
                              (why_of(BOOK, nat(number(5))),))
        for _ in range(9999):
            unrolling.turn()
        self.assertEqual(unrolling.stand(), (9999, {"x": number(5)},
                                             (why_of(BOOK, nat(number(5))),)))
        self.soon(began)


class ByChance(Runs):
    def test_nets_and_written_out(self):
        most = 0
        for _, book, paper, things, whys in runs_of_nets(range(60)):
            told, _ = plainly_unrolled(book, paper, things, whys)
            self.ends_by(paper, things, whys, told[0], told[2], book)
            most = max(most, told[2])
        self.assertGreater(most, 20)

    def test_papers(self):
        gone = []
        for _, book, paper, things, whys in runs_by_chance(range(700), 12):
            told, _ = plainly_unrolled(book, paper, things, whys)
            self.ends_by(paper, things, whys, told[0], told[2], book)
            gone.append(told[2])
        self.assertGreater(len(gone), 150)
        self.assertGreater(len([many for many in gone if many > 2]), 50)

    def test_names_of_things_by_chance(self):
        """Things of other makers, which no rule looks into, go along as they are."""
        for seed in range(60):
            rng = random.Random(seed)
            thing = samples.any_thing(rng, GROWING, 6)
            things = {"y": thing, "x": number(seed % 4)}
            whys = (why_of(GROWING, nat(number(seed % 4))),)
            self.ends_by(WIDE_PAPER, things, whys, 0, 3 * (seed % 4) + 2, GROWING)


if __name__ == "__main__":
    unittest.main()
