"""Ways, rings and their ties; loose rings; which papers are let by (point 14)."""

import random
import time
import unittest

import plainly
import sample_papers
import samples
from leanround.errors import Loose, NoStep, TooMany
from leanround.rings import closed, look, way_ties
from leanround.steps import goals_of
from leanround.ties import Ties, ties_of
from sample_papers import (
    ALL_FORMS, BY_TURNS, EVEN_PAPER, EXCHANGED, TO_ITSELF, nat, net_of_cases, net_of_fills,
    numbered, odd, s)
from samples import BOOK, ZERO

SHORT = 5
FIELDS = {NoStep: "at", TooMany: "most"}
AT_ODDS = ((nat("x"), nat("y")), (odd(ZERO),))


def fill_places(goal, lefts):
    """A step that leads to a claim of numbers x, y, .. as a fill from one of them."""
    names = ("x", "y", "z")[:len(lefts)]
    return "fill", goal, tuple([(name, names[at]) for name, at in zip(names, lefts)]), lefts, (0,)


def steps_of(book, paper):
    """(n, m, ties) of each step of a paper, its ties as a set."""
    found = []
    for n, node in enumerate(paper):
        for goal, ties in zip(goals_of(node[1]), ties_of(book, node)):
            if goal is not None:
                found.append((n, goal, frozenset(ties.arcs())))
    return found


class Looked(unittest.TestCase):
    def let_by(self, paper, book=BOOK, most=2000):
        for _ in range(2):
            self.assertIs(look(book, paper, most), True)
        self.assertIs(look(book=book, paper=paper, most=most), True)

    def is_ring(self, book, paper, ring):
        """Checks that a ring told is one of the paper, and is loose."""
        self.assertIs(ring.__class__, tuple)
        self.assertGreater(len(ring), 0)
        ties = frozenset([(at, at, False) for at in range(9)])
        for (node, k), (behind, _) in zip(ring, ring[1:] + ring[:1]):
            self.assertTrue(node.__class__ is k.__class__ is int)
            self.assertTrue(0 <= node < len(paper))
            self.assertTrue(0 <= k < len(goals_of(paper[node][1])))
            self.assertEqual(goals_of(paper[node][1])[k], behind)
            ties = plainly.laid_on(ties, ties_of(book, paper[node])[k].arcs())
        self.assertEqual(way_ties(book, paper, ring), Ties(list(ties)))
        self.assertEqual(plainly.laid_on(ties, ties), ties)
        self.assertFalse(any([a == b and falls for a, b, falls in ties]))

    def loose(self, paper, book=BOOK, most=2000):
        rings = []
        for _ in range(2):
            with self.assertRaises(Loose) as caught:
                look(book, paper, most)
            rings.append(caught.exception.ring)
            self.is_ring(book, paper, rings[-1])
        self.assertEqual(rings[0], rings[1])
        return rings[0]

    def refused(self, refusal, paper, worth, most=2000):
        for _ in range(2):
            with self.assertRaises(refusal) as caught:
                look(BOOK, paper, most)
            self.assertEqual(getattr(caught.exception, FIELDS[refusal]), worth)


class WayTies(unittest.TestCase):
    def told(self, paper, way, text):
        for given in (way, tuple(way)):
            for _ in range(2):
                self.assertEqual(str(way_ties(BOOK, paper, given)), text)
        self.assertIsInstance(way_ties(book=BOOK, paper=paper, way=way), Ties)

    def test_one_step(self):
        self.told(EVEN_PAPER, [(0, 0)], "none")
        self.told(EVEN_PAPER, [(0, 1)], "0>0!")
        self.told(EVEN_PAPER, [(2, 0)], "0>0")
        self.told(BY_TURNS, [(3, 0)], "0>1 1>0")
        self.told(ALL_FORMS, [(0, 1)], "0>0")

    def test_more(self):
        self.told(EVEN_PAPER, [(0, 1), (2, 0)], "0>0!")
        self.told(EVEN_PAPER, [(2, 0), (3, 0), (4, 0)], "0>0!")
        self.told(EVEN_PAPER, [(2, 0), (3, 0), (4, 0), (0, 0)], "none")
        self.told(BY_TURNS, [(0, 1), (2, 0), (3, 0)], "0>1! 1>0")
        self.told(BY_TURNS, [(3, 0), (0, 1)], "0>1 1>0!")
        self.told(BY_TURNS, [(0, 1), (2, 0), (3, 0)] * 2, "0>0! 1>1!")
        self.told(ALL_FORMS, [(0, 1), (2, 0), (4, 1), (6, 0), (7, 0)], "0>0!")

    def test_a_list_as_it_was(self):
        way = [(0, 1), (2, 0), (3, 0)]
        way_ties(BOOK, BY_TURNS, way)
        self.assertEqual(way, [(0, 1), (2, 0), (3, 0)])

    def test_two_parts(self):
        """The ties of a way of two parts are those of the parts, laid."""
        for seed in range(80):
            rng = random.Random(seed)
            paper = net_of_fills(seed, 6, 3) if seed % 2 else rng.choice([EVEN_PAPER, BY_TURNS])
            node, way = 0, []
            for _ in range(8):
                goals = goals_of(paper[node][1])
                if goals:
                    way.append((node, rng.randrange(len(goals))))
                    node = goals[way[-1][1]]
            for many in range(1, len(way)):
                one, other = way[:many], way[many:]
                self.assertEqual(way_ties(BOOK, paper, way),
                                 way_ties(BOOK, paper, one).laid(way_ties(BOOK, paper, other)))


class Closed(unittest.TestCase):
    def sets(self, told):
        return [(n, m, frozenset(ties.arcs())) for n, m, ties in told]

    def check(self, paper, book=BOOK):
        """All that are due are told, each once; just at the bound, and not one below it."""
        due = plainly.plainly_closed(steps_of(book, paper))
        told = closed(book, paper, 10000)
        self.assertIs(told.__class__, list)
        self.assertTrue(all([isinstance(ties, Ties) for _, _, ties in told]))
        self.assertEqual(len(told), len(due))
        self.assertEqual(set(self.sets(told)), due)
        if due:
            told.clear()
            self.assertEqual(set(self.sets(closed(book=book, paper=paper, most=len(due)))), due)
        if len(due) > 1:
            self.too_many(paper, len(due) - 1, book)
        return len(due)

    def too_many(self, paper, most, book=BOOK):
        for told in (lambda: closed(book, paper, most), lambda: closed(book, paper, most=most),
                     lambda: look(book, paper, most), lambda: look(book, paper, most=most)):
            with self.assertRaises(TooMany) as caught:
                told()
            self.assertEqual(caught.exception.most, most)

    def test_none(self):
        self.assertEqual(self.check(((((nat("x"),), (nat("x"),)), ("same", 0, 0)),)), 0)
        self.assertEqual(closed(BOOK, ((((), (nat(ZERO),)), ("use", 0, 0, ())),), 1), [])

    def test_written_out(self):
        self.assertEqual(self.check(TO_ITSELF), 1)
        self.assertEqual(self.check(EXCHANGED), 2)
        self.check(EVEN_PAPER)
        self.check(BY_TURNS)
        self.check(ALL_FORMS)

    def test_each_of_the_same_goals(self):
        """Two steps to one node with the same ties count as one."""
        listed = ("list", (("put", "x", "x"),))
        paper = ((((nat("x"),), (nat(s("x")), listed)), ("use", 0, 1, (1,))),
                 (((nat("x"),), (nat("x"), listed)), ("same", 0, 0)))
        self.assertEqual(self.check(paper), 1)
        book = (BOOK[0], (*BOOK[1][:1], ("two", 1, 0, (
            ((s("x"),), (("two", ("x",)), ("two", ("x",)))),))))
        paper = ((((), (("two", (s("a"),)),)), ("use", 0, 0, (1, 1))),
                 (((), (("two", ("a",)),)), ("fill", 1, (("a", "a"),), (), (0,))))
        self.assertEqual(self.check(paper, book), 2)

    def test_nets(self):
        most = 0
        for seed in range(60):
            most = max(most, self.check(net_of_fills(seed, 6, seed % 4)))
            self.check(net_of_cases(seed, 2, 1 + seed % 2))
        self.assertGreater(most, 100)

    def test_by_chance(self):
        many = 0
        for seed in range(150):
            rng = random.Random(seed)
            book = samples.any_book(rng)
            paper = sample_papers.any_paper(rng, book, samples.any_claim(rng, book), 8)
            if paper is not None and len(paper) > 1:
                many += 1
                self.check(paper, book)
        self.assertGreater(many, 20)

    def test_left_out(self):
        """2000 where it is left out: of two nets, one with 1,994 unlike ones and one with more."""
        paper = net_of_fills(17, 12, 3)
        self.assertEqual(len(closed(BOOK, paper)), 1994)
        self.assertEqual(len(closed(paper=paper, book=BOOK)), 1994)
        more = net_of_fills(0, 24, 5)
        self.assertEqual(len(closed(BOOK, more, 10000)), 9394)
        self.too_many(more, 9393)
        for told in (lambda: closed(BOOK, more), lambda: look(BOOK, more)):
            with self.assertRaises(TooMany) as caught:
                told()
            self.assertEqual(caught.exception.most, 2000)


class LetBy(Looked):
    def test_without_rings(self):
        self.let_by(((((nat("x"),), (nat("x"),)), ("same", 0, 0)),), most=1)
        self.let_by(((((nat(("nil",)),), (odd("x"),)), ("cases", 0, (None, None))),), most=1)

    def test_rings_that_fall(self):
        self.let_by(EVEN_PAPER)
        self.let_by(ALL_FORMS)
        self.let_by(BY_TURNS)
        self.assertIs(look(BOOK, EVEN_PAPER), True)

    def test_ring_of_one_node_that_falls(self):
        """A saying that no thing is of, of any claim."""
        book = (BOOK[0], (("f", 1, 0, (((s("x"),), (("f", ("x",)),)),)), BOOK[1][2]))
        paper = ((((("f", ("x",)),), (odd(ZERO),)), ("cases", 0, (0,))),)
        self.let_by(paper, book)
        # The same where the goal's right is another one is no step at all.
        paper = ((((("f", ("x",)),), (odd("x"),)), ("cases", 0, (0,))),)
        with self.assertRaises(NoStep):
            look(book, paper)

    def test_nets(self):
        for seed in range(40):
            self.let_by(net_of_cases(seed, 1 + seed % 3, 1 + seed % 2))

    def test_most(self):
        for most in range(len(closed(BOOK, BY_TURNS)), 40):
            self.let_by(BY_TURNS, most=most)


class LooseRings(Looked):
    def test_one_node(self):
        self.assertEqual(self.loose(TO_ITSELF), ((0, 0),))

    def test_several_nodes(self):
        """A number is put, and left out again."""
        paper = (
            (((), (nat("x"),)), ("put", nat("x"), 1, 2)),
            (((), (nat("x"), nat("x"))), ("fill", 0, (("x", "x"),), (), (0,))),
            (((nat("x"),), (nat("x"),)), ("same", 0, 0)),
        )
        self.assertEqual(sorted(self.loose(paper)), [(0, 0), (1, 0)])

    def test_ring_by_cases_without_needs(self):
        """Where the first is none the second becomes both, and nothing falls."""
        paper = (
            (AT_ODDS, ("cases", 0, (1, 2))),
            (((nat("y"),), (odd(ZERO),)), ("fill", 0, (("x", "y"), ("y", "y")), (0, 0), (0,))),
            (AT_ODDS, fill_places(0, (0, 1))),
        )
        self.assertEqual(sorted(self.loose(paper)), [(0, 0), (1, 0)])

    def test_falling_to_another_place_alone(self):
        """A number is doubled, the second one falls, and then is left out."""
        paper = (
            (numbered("x"), ("fill", 1, (("x", "x"), ("y", "x")), (0, 0), (0,))),
            (numbered("xy"), ("cases", 1, (3, 2))),
            (numbered("xy"), ("fill", 0, (("x", "x"),), (0,), (0,))),
            (numbered("x"), ("use", 0, 0, ())),
        )
        ties = way_ties(BOOK, paper, [(2, 0), (0, 0), (1, 1)])
        self.assertEqual(str(ties), "0>0 0>1!")
        self.assertEqual((ties.itself(), ties.falls_on()), (True, False))
        self.assertEqual(sorted(self.loose(paper)), [(0, 0), (1, 1), (2, 0)])
        # Where the second one is kept, and the first left out, there is none.
        kept = ("fill", 0, (("x", "y"),), (1,), (0,))
        self.let_by((*paper[:2], (numbered("xy"), kept), paper[3]))

    def test_not_come_to_from_the_first(self):
        front = ((((nat("x"),), (nat("x"),)), ("same", 0, 0)),)
        paper = front + ((((), (nat("x"),)), ("fill", 1, (("x", "x"),), (), (0,))),)
        self.assertEqual(self.loose(paper), ((1, 0),))
        paper = EVEN_PAPER + ((((), (nat("x"),)), ("fill", 5, (("x", "x"),), (), (0,))),)
        self.assertEqual(self.loose(paper), ((5, 0),))

    def test_gone_through_twice(self):
        self.assertEqual(self.loose(EXCHANGED), ((0, 0), (0, 0)))

    def test_gone_through_three_times(self):
        paper = ((((nat("x"), nat("y"), nat("z")), (odd(ZERO),)), fill_places(0, (1, 2, 0))),)
        self.assertEqual(self.loose(paper), ((0, 0),) * 3)

    def test_exchanged_through_several_nodes(self):
        paper = ((AT_ODDS, fill_places(1, (1, 0))), (AT_ODDS, fill_places(0, (0, 1))))
        self.assertEqual(len(self.loose(paper)), 4)

    def test_nothing_on_the_left(self):
        paper = ((((), (nat("x"), odd("y"))), ("fill", 1, (("x", "x"),), (), (0,))),
                 (((), (nat("x"),)), ("put", odd("x"), 2, 3)),
                 (((), (nat("x"), odd("x"))), ("fill", 0, (("x", "x"), ("y", "x")), (), (0, 1))),
                 (((odd("x"),), (nat("x"),)), ("fill", 1, (("x", "x"),), (), (0,))))
        self.loose(paper)

    def test_nets_and_papers_by_chance(self):
        """Loose just where one of all that are due, made in a plain way, is loose."""
        rings = []
        for seed in range(400):
            rng = random.Random(seed)
            book = samples.any_book(rng)
            paper = sample_papers.any_paper(rng, book, samples.any_claim(rng, book), 6)
            if paper is None or len(paper) == 1:
                continue
            if plainly.plainly_loose(plainly.plainly_closed(steps_of(book, paper))):
                rings.append(self.loose(paper, book))
            else:
                self.let_by(paper, book)
        for seed in range(30):
            rings.append(self.loose(net_of_fills(seed, 6, 2)))
        self.assertGreater(len(rings), 50)
        self.assertGreater(len([ring for ring in rings if len(ring) > 1]), 5)


class InOrder(Looked):
    def test_no_step(self):
        self.refused(NoStep, ((((nat("x"),), (nat("y"),)), ("same", 0, 0)),), 0)
        self.refused(NoStep, EVEN_PAPER[:4], 3)
        self.refused(NoStep, EVEN_PAPER[:3], 2)
        self.refused(NoStep, (*BY_TURNS, (None, None), ("", ())), 4)

    def test_no_step_ahead_of_too_many(self):
        wrong = ((((), (nat("x"),)), ("use", 0, 0, ())),)
        for most in (1, 2, 2000):
            self.refused(NoStep, BY_TURNS + wrong, 4, most)
            self.refused(NoStep, EVEN_PAPER + wrong, 5, most)

    def test_no_step_ahead_of_loose(self):
        self.refused(NoStep, TO_ITSELF + ((((), (nat("x"),)), ("same", 0, 0)),), 1)
        self.refused(NoStep, EXCHANGED + ((AT_ODDS, ("same", 0, 0)),), 1, 1)

    def test_too_many_ahead_of_loose(self):
        self.refused(TooMany, EXCHANGED, 1, 1)
        self.loose(EXCHANGED, most=2)
        paper = TO_ITSELF + ((((), (nat("x"),)), ("fill", 0, (("x", "x"),), (), (0,))),)
        self.refused(TooMany, paper, 1, 1)
        self.assertEqual(self.loose(paper, most=2), ((0, 0),))

    def test_too_many_of_what_is_let_by(self):
        many = len(closed(BOOK, EVEN_PAPER))
        for most in range(1, many):
            self.refused(TooMany, EVEN_PAPER, most, most)
        self.let_by(EVEN_PAPER, most=many)

    def test_paper_is_asked_again(self):
        kept = repr(BY_TURNS)
        look(BOOK, BY_TURNS)
        closed(BOOK, BY_TURNS)
        self.assertEqual(repr(BY_TURNS), kept)


class InShortTime(Looked):
    def soon(self, began):
        self.assertLess(time.perf_counter() - began, SHORT)

    def test_nearly_two_thousand_let_by(self):
        for seed, groups, due in ((35, 3, 1992), (57, 3, 1960), (33, 4, 1992)):
            paper = net_of_cases(seed, groups, 3)
            paper = paper + (paper[1],) * (24 - len(paper))
            began = time.perf_counter()
            self.let_by(paper)
            self.assertEqual(len(closed(BOOK, paper)), due)
            self.soon(began)

    def test_nearly_two_thousand_loose(self):
        for seed, many, wide, due in ((30, 6, 3, 1992), (17, 12, 3, 1994), (5, 24, 5, 1957)):
            paper = net_of_fills(seed, many, wide)
            began = time.perf_counter()
            self.loose(paper)
            self.assertEqual(len(closed(BOOK, paper)), due)
            self.soon(began)

    def test_too_many_soon(self):
        for seed in (0, 3, 6, 9):
            began = time.perf_counter()
            self.refused(TooMany, net_of_fills(seed, 24, 5), 2000)
            self.soon(began)


if __name__ == "__main__":
    unittest.main()
