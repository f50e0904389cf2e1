"""Plain papers, and how they lean back (points 20 and 21)."""

import random
import time
import unittest

import samples
from leanround.errors import NoPlain, TooMany
from leanround.papers import paper_stands
from leanround.plain import leaning, look_plain
from leanround.rings import look
from leanround.unrolling import unrolled
from leanround.whys import is_why, why_of
from plainly import atoms_with
from plainly_run import plainly_first_wrong
from sample_papers import even, nat, odd, s
from sample_plain import (
    PLAIN_EVEN, PLAIN_ZERO, TWO_AGAINS, any_plain, falling, plus)
from sample_runs import holding
from samples import BOOK, ZERO, number

SHORT = 5


def with_step(paper, n, step):
    return (*paper[:n], (paper[n][0], step), *paper[n + 1:])


def with_claim(paper, n, claim):
    return (*paper[:n], (claim, paper[n][1]), *paper[n + 1:])


class Looked(unittest.TestCase):
    def let_by(self, paper, book=BOOK):
        kept = repr(paper)
        for _ in range(2):
            self.assertIs(look_plain(book, paper), True)
        self.assertIs(look_plain(paper=paper, book=book), True)
        self.assertEqual(repr(paper), kept)
        self.assertIsNone(plainly_first_wrong(book, paper))
        leant = leaning(paper)
        self.assertIsNone(paper_stands(book, leant))
        self.assertIs(look(book, leant, 10000), True)

    def no_plain(self, paper, at, book=BOOK, plainly=True):
        for told in (lambda: look_plain(book, paper), lambda: look_plain(paper=paper, book=book)):
            with self.assertRaises(NoPlain) as caught:
                told()
            self.assertEqual(caught.exception.at, at)
            self.assertIs(caught.exception.at.__class__, int)
        if plainly:
            self.assertEqual(plainly_first_wrong(book, paper), at)


class LetBy(Looked):
    def test_without_inductions(self):
        self.let_by(((((nat("x"),), (nat("x"),)), ("same", 0, 0)),))
        self.let_by(PLAIN_ZERO[1:2])
        none = ((((nat(("nil",)),), (odd("x"),)), ("again", 0, (None, None))),)
        self.let_by(none)
        self.let_by(((none[0][0], ("cases", 0, (None, None))),))

    def test_each_form(self):
        claim = ((nat("x"), even("y")), (nat("x"),))
        paper = ((claim, ("put", odd("x"), 1, 2)),
                 ((claim[0], (nat("x"), odd("x"))), ("same", 0, 0)),
                 (((nat("x"), even("y"), odd("x")), (nat("x"),)),
                  ("fill", 3, (("z", "x"),), (0,), (0,))),
                 (((nat("z"),), (nat("z"),)), ("cases", 0, (4, 5))),
                 (((), (nat(ZERO),)), ("use", 0, 0, ())),
                 (((nat("z"),), (nat(s("z")),)), ("use", 0, 1, (6,))),
                 (((nat("z"),), (nat("z"),)), ("same", 0, 0)))
        self.let_by(paper)
        self.let_by(with_step(paper, 3, ("again", 0, (4, 5))))

    def test_one_again(self):
        self.let_by(PLAIN_ZERO)
        self.let_by(PLAIN_EVEN)

    def test_agains_within_one_another(self):
        """A hyp to the inner one that keeps what the outer falls by, one to the outer by a part."""
        self.let_by(TWO_AGAINS)

    def test_made_term_put_between(self):
        """What is put stands behind the left, and is none of what must be kept."""
        left, right = (nat("x"),), (even(ZERO),)
        paper = (((left, right), ("again", 0, (1, 2))),
                 (((), right), ("use", 0, 0, ())),
                 (((nat("w"),), right), ("put", nat(s(s("w"))), 3, 4)),
                 (((nat("w"),), right + (nat(s(s("w"))),)), ("use", 0, 0, ())),
                 (((nat("w"), nat(s(s("w")))), right), ("hyp", 0, (("x", "w"),), (0,), (0,))))
        self.let_by(paper)
        # By the term put nothing falls: it is no part of what stood there.
        self.no_plain(with_step(paper, 4, ("hyp", 0, (("x", s(s("w"))),), (1,), (0,))), 4)

    def test_hyp_just_behind_an_again(self):
        left, right = (nat("x"),), (even(ZERO),)
        paper = (((left, right), ("again", 0, (1, 2))), (((), right), ("use", 0, 0, ())),
                 (((nat("w"),), right), ("hyp", 0, (("x", "w"),), (0,), (0,))))
        self.let_by(paper)

    def test_both_needs_fall(self):
        """By a rule of two needs each is a part: a hyp may go by the one or the other."""
        book = (BOOK[0], (*BOOK[1], ("tree", 1, 0, (
            (((("nil",),), ())), ((("put", "x", "y"),), (("tree", ("x",)), ("tree", ("y",))))))))
        claim = ((("tree", ("z",)),), (even(ZERO),))
        inner = ((("tree", ("a",)), ("tree", ("b",))), (even(ZERO),))
        for name, at in (("a", 0), ("b", 1)):
            paper = ((claim, ("again", 0, (1, 2))), (((), (even(ZERO),)), ("use", 0, 0, ())),
                     (inner, ("hyp", 0, (("z", name),), (at,), (0,))))
            self.let_by(paper, book)


class KeptOrNot(Looked):
    """Agains within one another: what the hyp to the inner one keeps of the outer one's."""

    def paper(self, lefts, a, left=(nat("x"), nat("y"))):
        """An again at x, in it one at y, then a hyp; both cases of nought end at once."""
        right = (even(ZERO),)
        pairs = tuple([(name, left[at][1][0]) for name, at in zip("xy", lefts)])
        return (((left, right), ("again", 0, (1, 2))),
                ((left[1:], right), ("use", 0, 0, ())),
                ((left, right), ("again", 1, (3, 4))),
                ((left[:1], right), ("use", 0, 0, ())),
                ((left, right), ("hyp", a, pairs, lefts, (0,))))

    def test_inner(self):
        self.let_by(self.paper((0, 1), 2))
        self.no_plain(self.paper((1, 1), 2), 4)
        self.no_plain(self.paper((0, 0), 2), 4)
        self.no_plain(self.paper((1, 0), 2), 4)

    def test_outer(self):
        self.let_by(self.paper((0, 1), 0))
        self.let_by(self.paper((0, 0), 0))
        self.no_plain(self.paper((1, 1), 0), 4)
        self.no_plain(self.paper((1, 0), 0), 4)

    def test_inner_by_a_part_of_what_is_kept(self):
        """What must be kept may fall, too: x is gone into behind the inner again."""
        right, left = (even(ZERO),), (nat("x"), nat("y"))
        pairs = (("x", "x"), ("y", "y"))
        paper = self.paper((0, 1), 2)[:4] + (
            ((left, right), ("cases", 0, (5, 6))),
            ((left[1:], right), ("use", 0, 0, ())),
            ((left, right), ("hyp", 2, pairs, (0, 1), (0,))))
        self.let_by(paper)
        self.let_by(with_step(paper, 6, ("hyp", 0, pairs, (0, 1), (0,))))

    def test_inner_at_the_place_of_the_outer(self):
        """The inner one is at the same place, so its fall keeps what the outer falls by."""
        right, left = (even(ZERO),), (nat("x"),)
        for a in (0, 2):
            self.let_by((((left, right), ("again", 0, (1, 2))),
                         (((), right), ("use", 0, 0, ())),
                         ((left, right), ("again", 0, (3, 4))),
                         (((), right), ("use", 0, 0, ())),
                         ((left, right), ("hyp", a, (("x", "x"),), (0,), (0,)))))

    def test_what_the_outer_led_to_twice(self):
        """By a fill the outer's number stands twice at the inner again: both are to be kept."""
        right = (even(ZERO),)
        two, three = (nat("x"), nat("y")), (nat("x"), nat("y"), nat("z"))
        paper = (((two, right), ("again", 0, (1, 2))),
                 (((nat("y"),), right), ("use", 0, 0, ())),
                 ((two, right), ("fill", 3, (("x", "x"), ("y", "y"), ("z", "x")), (0, 1, 0), (0,))),
                 ((three, right), ("again", 1, (4, 5))),
                 (((nat("x"), nat("z")), right), ("use", 0, 0, ())),
                 ((three, right), ("hyp", 3, (("x", "x"), ("y", "y"), ("z", "z")), (0, 1, 2), (0,))))
        self.let_by(paper)
        for lefts in ((0, 1, 0), (2, 1, 0), (2, 1, 2), (1, 1, 2), (0, 1, 1)):
            pairs = tuple([(name, "xyz"[at]) for name, at in zip("xyz", lefts)])
            self.no_plain(with_step(paper, 5, ("hyp", 3, pairs, lefts, (0,))), 5)

    def test_what_the_outer_does_not_lead_to(self):
        """By a fill the outer's number is left out: the inner one has nothing to keep of it."""
        right = (even(ZERO),)
        paper = ((((nat("x"), nat("y")), right), ("again", 0, (1, 2))),
                 (((nat("y"),), right), ("use", 0, 0, ())),
                 (((nat("x"), nat("y")), right),
                  ("fill", 3, (("x", "y"), ("y", "y")), (1, 1), (0,))),
                 (((nat("x"), nat("y")), right), ("again", 0, (4, 5))),
                 (((nat("y"),), right), ("use", 0, 0, ())),
                 (((nat("x"), nat("y")), right), ("hyp", 3, (("x", "x"), ("y", "x")), (0, 0), (0,))))
        self.let_by(paper)

    def test_three(self):
        """Of three agains a hyp to the innermost keeps both outer ones', to the middle one one."""
        right, left = (even(ZERO),), (nat("x"), nat("y"), nat("z"))

        def paper(lefts, a):
            pairs = tuple([(name, "xyz"[at]) for name, at in zip("xyz", lefts)])
            return (((left, right), ("again", 0, (1, 2))),
                    ((left[1:], right), ("use", 0, 0, ())),
                    ((left, right), ("again", 1, (3, 4))),
                    (((nat("x"), nat("z")), right), ("use", 0, 0, ())),
                    ((left, right), ("again", 2, (5, 6))),
                    ((left[:2], right), ("use", 0, 0, ())),
                    ((left, right), ("hyp", a, pairs, lefts, (0,))))

        for a in (0, 2, 4):
            self.let_by(paper((0, 1, 2), a))
        for lefts, let in (((0, 1, 0), (0, 2)), ((0, 1, 1), (0, 2)), ((0, 0, 2), (0,)),
                           ((0, 0, 0), (0,)), ((0, 2, 2), (0,)), ((1, 1, 2), ()), ((1, 0, 2), ()),
                           ((2, 1, 0), ()), ((0, 2, 1), (0,))):
            for a in (0, 2, 4):
                if a in let:
                    self.let_by(paper(lefts, a))
                else:
                    self.no_plain(paper(lefts, a), 6)


class Standing(Looked):
    """A node that doesn't stand, at each kind of node: an again as cases, a hyp as a fill."""

    def test_each_step_of_one_again(self):
        claim = PLAIN_ZERO[0][0]
        for step in (("again", 1, (1, 2)), ("again", -1, (1, 2)), ("again", 0, (1,)),
                     ("again", 0, (2, 1)), ("again", 0, (1, 2, None)), ("again", 0, (None, 2)),
                     ("again", 0, (1, None)), ("again", 0, ()), ("cases", 0, (2, 1)),
                     ("same", 0, 0), ("use", 0, 0, ()), ("fill", 2, (), (0,), (0,))):
            self.no_plain(with_step(PLAIN_ZERO, 0, step), 0)
        for step in (("use", 0, 1, ()), ("use", 0, 1, (3,)), ("use", 1, 0, ()), ("use", 0, 2, ())):
            self.no_plain(with_step(PLAIN_ZERO, 1, step), 1)
        for step in (("use", 0, 0, ()), ("use", 0, 1, (3, 3)), ("use", 0, 1, ())):
            self.no_plain(with_step(PLAIN_ZERO, 2, step), 2)
        self.no_plain(with_claim(PLAIN_ZERO, 3, claim), 2)
        self.no_plain(with_claim(PLAIN_ZERO, 1, claim), 0)

    def test_hyp_that_is_no_fill(self):
        for step in (("hyp", 0, (("w", "w"),), (0,), (0,)), ("hyp", 0, (("x", "x"),), (0,), (0,)),
                     ("hyp", 0, (), (0,), (0,)), ("hyp", 0, (("x", "w"),), (), (0,)),
                     ("hyp", 0, (("x", "w"),), (0, 0), (0,)), ("hyp", 0, (("x", "w"),), (1,), (0,)),
                     ("hyp", 0, (("x", "w"),), (-1,), (0,)), ("hyp", 0, (("x", "w"),), (0,), ()),
                     ("hyp", 0, (("x", "w"),), (0,), (1,)), ("hyp", 0, (("x", s("w")),), (0,), (0,)),
                     ("hyp", 0, (("x", "w"), ("y", "w")), (0,), (0,))):
            self.no_plain(with_step(PLAIN_ZERO, 3, step), 3)

    def test_goal_of_a_use_that_is_none(self):
        self.no_plain(with_step(PLAIN_ZERO, 2, ("use", 0, 1, (None,))), 2)
        self.no_plain(with_step(PLAIN_ZERO, 1, ("use", 0, 0, (None,))), 1)

    def test_atoms_that_are_not_of_the_book(self):
        for atom in (("other", ("x",)), ("nat", ()), ("nat", ("x", "x")), ("nat", (("s",),)),
                     ("nat", ("if",)), ("nat", (("other",),))):
            self.no_plain(((((atom,), (atom,)), ("same", 0, 0)),), 0)
        self.no_plain(with_claim(PLAIN_ZERO, 3, ((("other", ("w",)),), (nat("w"),))), 2)

    def test_places_and_rules(self):
        claim = ((nat("x"),), (nat("x"),))
        for step in (("same", 1, 0), ("same", 0, 1), ("same", -1, 0), ("put", ("other", ("x",)), 1, 2),
                     ("put", nat("y"), 1, 2), ("use", 0, 5, ()), ("again", 5, ())):
            self.no_plain(((claim, step),), 0)


class Numbers(Looked):
    """Goals that aren't greater, nodes that are no goal of a lesser one, or that are twice."""

    SAME = (((nat("x"),), (nat("x"),)), ("same", 0, 0))

    def fill(self, goal):
        return self.SAME[0], ("fill", goal, (("x", "x"),), (0,), (0,))

    def test_goal_that_is_not_greater(self):
        """It is told at the node whose goal it is."""
        self.no_plain((self.fill(0),), 0)
        self.no_plain((self.fill(1), self.fill(0)), 1)
        self.no_plain((self.fill(1), self.fill(1)), 1)
        self.no_plain((self.fill(1), self.fill(2), self.fill(0)), 2)
        self.no_plain((self.fill(1), self.fill(2), self.fill(1)), 2)
        self.no_plain((self.fill(1), self.fill(2), self.fill(2), self.SAME), 2)
        cases = with_step(PLAIN_EVEN, 3, ("cases", 0, (0,)))
        self.no_plain(with_claim(cases, 0, PLAIN_EVEN[4][0]), 0)
        self.no_plain(PLAIN_EVEN[:4] + ((PLAIN_EVEN[4][0], ("use", 0, 1, (0,))),), 4)
        ask = (self.SAME[0], ("put", nat("x"), 1, 2))
        one = ((nat("x"),), (nat("x"), nat("x")))
        other = ((nat("x"), nat("x")), (nat("x"),))
        self.let_by((ask, (one, ("same", 0, 0)), (other, ("same", 0, 0))))
        self.no_plain((self.fill(1), ask, (one, ("same", 0, 0)), (other, ("same", 0, 0))), 1)
        back = (other, ("fill", 0, (("x", "x"),), (0,), (0,)))
        self.no_plain((ask, (one, ("same", 0, 0)), back), 2)

    def test_goals_that_are_not_there(self):
        for goal in (1, 2, -1, -2, 10 ** 30):
            self.no_plain((self.fill(goal),), 0)
            self.no_plain((self.SAME, self.fill(goal)), 1)

    def test_no_goal_of_a_lesser_one(self):
        self.no_plain((self.SAME, self.SAME), 1)
        self.no_plain((self.fill(2), self.SAME, self.SAME), 1)
        self.no_plain((self.fill(1), self.SAME, self.SAME), 2)
        self.no_plain(PLAIN_ZERO + (self.SAME,), 4)
        self.no_plain(PLAIN_ZERO + PLAIN_ZERO, 4)

    def test_goal_of_a_greater_one_does_not_count(self):
        """Node 1 is a goal of none but node 2: it is node 1 that is told, not that one."""
        self.no_plain((self.fill(2), self.SAME, self.fill(1)), 1)
        # A goal of a lesser one and of a greater one: just once, so the greater one is told.
        self.no_plain((self.fill(1), self.fill(2), self.fill(1)), 2)
        self.no_plain((self.fill(1), self.fill(3), self.fill(1), self.SAME), 2)

    def test_goal_twice(self):
        """Of two nodes, and of one."""
        claim = self.SAME[0]
        ask = (claim, ("put", nat("x"), 1, 2))
        one = ((nat("x"),), (nat("x"), nat("x")))
        other = ((nat("x"), nat("x")), (nat("x"),))
        paper = (ask, (one, ("fill", 3, (("x", "x"),), (0,), (0,))),
                 (other, ("fill", 3, (("x", "x"),), (0,), (0,))), self.SAME)
        self.no_plain(paper, 3)
        book = (BOOK[0], (*BOOK[1], ("twice", 1, 0, ((
            (s("x"),), (("nat", ("x",)), ("nat", ("x",)))),))))
        paper = ((((nat("x"),), (("twice", (s("x"),)),)), ("use", 0, 0, (1, 1))), self.SAME)
        self.no_plain(paper, 1, book)
        paper = ((((nat("x"),), (("twice", (s("x"),)),)), ("use", 0, 0, (1, 2))), self.SAME, self.SAME)
        self.let_by(paper, book)

    def test_hyp_gives_none(self):
        """What a hyp leads to is no goal of it: neither a node ahead nor one behind."""
        self.let_by(PLAIN_ZERO)
        hyp = ("hyp", 4, (("x", "w"),), (0,), (0,))
        paper = with_step(PLAIN_ZERO, 3, hyp) + (PLAIN_ZERO[0],)
        self.no_plain(paper, 3)

    def test_first_of_two(self):
        """Of two that aren't right the one of the lesser number is told."""
        wrong = ("same", 5, 5)
        for n in range(4):
            for m in range(n, 4):
                self.no_plain(with_step(with_step(PLAIN_ZERO, n, wrong), m, wrong), n)
        self.no_plain(with_step((self.fill(2), self.SAME, self.fill(1)), 2, wrong), 1)
        self.no_plain(with_step((self.fill(2), self.SAME, self.SAME), 0, wrong), 0)
        self.no_plain((self.fill(1), self.fill(0), self.SAME), 1)
        self.no_plain((self.fill(2), self.fill(0), self.SAME), 1)


class Hyps(Looked):
    def test_no_again(self):
        """A hyp to a node above that is cases, or another step."""
        self.no_plain(with_step(PLAIN_ZERO, 0, ("cases", 0, (1, 2))), 3)
        right = (even(ZERO),)
        paper = ((((nat("x"),), right), ("fill", 1, (("x", "x"),), (0,), (0,))),
                 (((nat("x"),), right), ("again", 0, (2, 3))),
                 (((), right), ("use", 0, 0, ())),
                 (((nat("x"),), right), ("hyp", 1, (("x", "x"),), (0,), (0,))))
        self.let_by(paper)
        self.no_plain(with_step(paper, 3, ("hyp", 0, (("x", "x"),), (0,), (0,))), 3)

    def test_itself(self):
        claim = ((nat("x"),), (nat("x"),))
        self.no_plain(((claim, ("hyp", 0, (("x", "x"),), (0,), (0,))),), 0)
        self.no_plain(with_step(PLAIN_ZERO, 3, ("hyp", 3, (("w", "w"),), (0,), (0,))), 3)

    def test_not_above(self):
        """An again of a lesser number that stands in another branch."""
        right = (even(ZERO),)
        left = (nat("x"),)
        paper = (((left, right), ("put", odd(ZERO), 1, 4)),
                 ((left, right + (odd(ZERO),)), ("again", 0, (2, 3))),
                 (((), right + (odd(ZERO),)), ("use", 0, 0, ())),
                 ((left, right + (odd(ZERO),)), ("hyp", 1, (("x", "x"),), (0,), (0, 1))),
                 ((left + (odd(ZERO),), right), ("again", 0, (5, 6))),
                 (((odd(ZERO),), right), ("use", 0, 0, ())),
                 ((left + (odd(ZERO),), right), ("hyp", 4, (("x", "x"),), (0, 1), (0,))))
        self.let_by(paper)
        self.no_plain(with_step(paper, 6, ("hyp", 1, (("x", "x"),), (0,), (0, 0))), 6)
        claim = (left, right)
        paper = ((claim, ("again", 0, (1, 2))), (((), right), ("use", 0, 0, ())),
                 (claim, ("cases", 0, (3, 4))), (((), right), ("use", 0, 0, ())),
                 (claim, ("hyp", 0, (("x", "x"),), (0,), (0,))))
        self.let_by(paper)
        self.no_plain(with_step(paper, 2, ("hyp", 4, (("x", "x"),), (0,), (0,)))[:3]
                      + ((claim, ("again", 0, (3, 4))), paper[3]), 2)

    def test_not_there(self):
        for a in (4, 5, -1, -4, 10 ** 30, -10 ** 30):
            self.no_plain(with_step(PLAIN_ZERO, 3, ("hyp", a, (("x", "w"),), (0,), (0,))), 3)

    def test_no_part(self):
        """The left goes along, but what falls is another one, or nothing is."""
        right, left = (even(ZERO),), (nat("x"), nat("y"))
        paper = (((left, right), ("again", 0, (1, 2))),
                 (((nat("y"),), right), ("use", 0, 0, ())),
                 ((left, right), ("hyp", 0, (("x", "x"), ("y", "y")), (0, 1), (0,))))
        self.let_by(paper)
        self.let_by(with_step(paper, 2, ("hyp", 0, (("x", "x"), ("y", "x")), (0, 0), (0,))))
        self.no_plain(with_step(paper, 2, ("hyp", 0, (("x", "y"), ("y", "y")), (1, 1), (0,))), 2)
        self.no_plain(with_step(paper, 2, ("hyp", 0, (("x", "y"), ("y", "x")), (1, 0), (0,))), 2)

    def test_case_without_needs(self):
        """In the case of nought nothing fell: what stands there now is another number."""
        right, left = (even(ZERO),), (nat("x"), nat("y"))
        paper = (((left, right), ("again", 0, (1, 2))),
                 (((nat("y"),), right), ("hyp", 0, (("x", "y"), ("y", "y")), (0, 0), (0,))),
                 ((left, right), ("use", 0, 0, ())))
        self.no_plain(paper, 1)


class Leaning(unittest.TestCase):
    def test_steps(self):
        claim = ((nat("x"),), (nat("x"),))
        steps = (("again", 0, (1, None)), ("hyp", 0, (("x", "x"),), (0,), (0,)), ("cases", 0, (2, 3)),
                 ("fill", 4, (("x", "x"),), (0,), (0,)), ("same", 0, 0), ("use", 0, 1, (3,)),
                 ("use", 0, 0, ()), ("put", nat("x"), 1, 2))
        due = (("cases", 0, (1, None)), ("fill", 0, (("x", "x"),), (0,), (0,)), *steps[2:])
        paper = tuple([(claim, step) for step in steps])
        kept = repr(paper)
        for _ in range(2):
            self.assertEqual(leaning(paper), tuple([(claim, step) for step in due]))
        self.assertEqual(repr(leaning(paper=paper)), repr(tuple([(claim, step) for step in due])))
        self.assertEqual(repr(paper), kept)
        self.assertEqual(leaning(leaning(paper)), leaning(paper))

    def test_written_out(self):
        self.assertEqual(leaning(PLAIN_ZERO), (
            (PLAIN_ZERO[0][0], ("cases", 0, (1, 2))), PLAIN_ZERO[1], PLAIN_ZERO[2],
            (PLAIN_ZERO[3][0], ("fill", 0, (("x", "w"),), (0,), (0,)))))

    def test_unrolls(self):
        for many in range(6):
            for paper, saying in ((PLAIN_ZERO, nat), (PLAIN_EVEN, even)):
                things = {"x": number(many)}
                why = why_of(BOOK, saying(number(many)))
                if why is None:
                    continue
                j, told, _ = unrolled(BOOK, leaning(paper), things, (why,))
                right = atoms_with(paper[0][0][1], things)
                self.assertIs(is_why(BOOK, told, right[j]), True)
                self.assertEqual(told, why_of(BOOK, right[j]))

    def test_claim_of_plus(self):
        self.assertEqual(PLAIN_ZERO[0][0][1], (plus("x", ZERO, "x"),))


class ByChance(Looked):
    def check(self, book, paper):
        """Whether it is let by, as it must be; then leaning it is let by, and unrolls."""
        at = plainly_first_wrong(book, paper)
        if at is not None:
            self.no_plain(paper, at, book, False)
            return False
        self.assertIs(look_plain(book, paper), True)
        leant = leaning(paper)
        try:
            self.assertIs(look(book, leant, 4000), True)
        except TooMany:
            self.assertGreater(len(paper), 9)
        for things, whys in holding(random.Random(len(paper)), book, paper[0][0], 2):
            j, why, _ = unrolled(book, leant, things, whys, 10000)
            self.assertIs(is_why(book, why, atoms_with(paper[0][0][1], things)[j]), True)
        return True

    def test_falling(self):
        told = []
        for seed in range(1500):
            paper = falling(random.Random(seed), BOOK, 1 + seed % 3, 2 + seed % 4)
            if any([step[0] == "hyp" for _, step in paper]):
                told.append(self.check(BOOK, paper))
        self.assertGreater(told.count(True), 200)
        self.assertGreater(told.count(False), 200)

    def test_papers(self):
        told = []
        for seed in range(400):
            rng = random.Random(seed)
            book = samples.any_book(rng) if seed % 3 else BOOK
            for _ in range(4):
                paper = any_plain(rng, book, samples.any_claim(rng, book), 24)
                if paper is not None:
                    told.append(self.check(book, paper))
        self.assertGreater(told.count(True), 500)
        self.assertGreater(told.count(False), 20)

    def test_broken(self):
        """With a step of another node, or another number in it, the first wrong one is told."""
        told = []
        for seed in range(1200):
            rng = random.Random(seed)
            paper = rng.choice([PLAIN_ZERO, PLAIN_EVEN, TWO_AGAINS])
            n = rng.randrange(len(paper))
            (word, *row) = rng.choice(paper)[1] if seed % 2 else paper[n][1]
            at = rng.randrange(len(row))
            if isinstance(row[at], int):
                row[at] += rng.choice([-1, 1])
            elif row[at] and isinstance(row[at][0], int):
                row[at] = (row[at][0] + rng.choice([-1, 1, 2]), *row[at][1:])
            told.append(self.check(BOOK, with_step(paper, n, (word, *row))))
        self.assertGreater(told.count(False), 500)

    def test_in_short_time(self):
        began = time.perf_counter()
        for seed in range(40):
            paper = falling(random.Random(seed), BOOK, 3, 12)
            self.check(BOOK, paper[:60])
        chain = []
        right, left = (even(ZERO),), (nat("x"), nat("y"), nat("z"))
        for n in range(0, 38, 2):
            i = n // 2 % 3
            chain.append(((left, right), ("again", i, (n + 1, n + 2))))
            chain.append(((left[:i] + left[i + 1:], right), ("use", 0, 0, ())))
        chain.append(((left, right), ("hyp", 0, (("x", "x"), ("y", "y"), ("z", "z")), (0, 1, 2),
                                      (0,))))
        for a in range(0, 38, 2):
            hyp = ("hyp", a, chain[-1][1][2], (0, 1, 2), (0,))
            self.assertIs(look_plain(BOOK, (*chain[:-1], (chain[-1][0], hyp))), True)
        self.assertLess(time.perf_counter() - began, 2 * SHORT)


if __name__ == "__main__":
    unittest.main()
