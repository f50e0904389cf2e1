"""Papers gathered and trimmed (point 19)."""

import random
import time
import unittest

from leanround.gathered import gathered, trimmed
from leanround.made import once_more
from leanround.papers import paper_stands
from leanround.steps import goals_of
from leanround.unrolling import unrolled
from plainly_run import plain_with_numbers, plainly_gathered, plainly_trimmed, plainly_unrolled
from sample_papers import (
    ALL_FORMS, BY_TURNS, EVEN_PAPER, TO_ITSELF, nat, net_of_cases, net_of_fills, odd, s)
from sample_runs import FULL_PAPER, LISTED, let_by, runs_by_chance, runs_of_nets
from samples import BOOK, number
from test_made import any_papers, samples_why

SHORT = 5
CLAIM = ((nat("x"),), (nat("x"),))
SAME = (CLAIM, ("same", 0, 0))


def to(goal, claim=CLAIM):
    return claim, ("fill", goal, (("x", "x"),), (0,), (0,))


def with_more(rng, paper, many):
    """The paper with so many goals, each chosen by chance, gone once more."""
    for _ in range(many):
        goals = [(n, k) for n, (_, step) in enumerate(paper)
                 for k, goal in enumerate(goals_of(step)) if goal is not None]
        if goals:
            paper = once_more(paper, *rng.choice(goals))
    return paper


def mixed(rng, paper):
    """The paper with its nodes, but the first, in another order."""
    order = list(range(1, len(paper)))
    rng.shuffle(order)
    order = [0] + order
    return plain_with_numbers(paper, order, order.index)


class Papers(unittest.TestCase):
    FUNCTION = staticmethod(gathered)
    PLAINLY = staticmethod(plainly_gathered)

    def told(self, paper, due):
        kept = repr(paper)
        for _ in range(2):
            self.assertEqual(self.FUNCTION(paper), due)
        self.assertEqual(repr(self.FUNCTION(paper=paper)), repr(due))
        self.assertEqual(repr(paper), kept)
        self.assertEqual(self.PLAINLY(paper), due)
        self.assertEqual(self.FUNCTION(due), due)

    def by_chance(self):
        for seed in range(220):
            rng = random.Random(seed)
            for _, book, paper in any_papers([seed], 8):
                yield rng, book, paper
                more = with_more(rng, paper, rng.randrange(1, 6))
                yield rng, book, more
                yield rng, book, mixed(rng, more)

    def unrolls(self, book, paper, things, whys):
        due, _ = plainly_unrolled(book, paper, things, whys)
        self.assertEqual(unrolled(book, self.FUNCTION(paper), things, whys), due)


class Gathered(Papers):
    def test_nothing_alike(self):
        for paper in (EVEN_PAPER, BY_TURNS, FULL_PAPER, LISTED, TO_ITSELF, (SAME,)):
            self.told(paper, paper)

    def test_like_nodes(self):
        """The fills at the end of all forms are unlike by claim; a same stands twice here."""
        self.told((to(1), to(2), SAME), (to(1), to(2), SAME))
        self.told((to(2), SAME, SAME), (to(1), SAME))
        self.told((SAME, SAME, SAME), (SAME,))
        self.told((SAME, to(0), SAME, to(2)), (SAME, to(0)))

    def test_alike_by_goals_that_are_made_one_in_turn(self):
        claim = ((nat("x"),), (nat("x"), nat("x")))
        ask = ((nat("x"),), (nat("x"),)), ("put", nat("x"), 1, 2)
        paper = (ask, (claim, ("same", 0, 1)),
                 (((nat("x"), nat("x")), (nat("x"),)), ("fill", 3, (("x", "x"),), (1,), (0,))),
                 (CLAIM, ("put", nat("x"), 4, 5)), (claim, ("same", 0, 1)),
                 (((nat("x"), nat("x")), (nat("x"),)), ("fill", 6, (("x", "x"),), (1,), (0,))),
                 SAME)
        # Node 4 is as node 1 is, and no others: one put leads by a fill to a put, one to a same.
        ask = paper[3][0], ("put", nat("x"), 1, 4)
        last = paper[5][0], ("fill", 5, (("x", "x"),), (1,), (0,))
        self.told(paper, (*paper[:3], ask, last, SAME))

    def test_chain_from_behind(self):
        """Two chains of fills that end alike are one, however long."""
        self.told((to(2), to(3), to(4), to(5), SAME, SAME), (to(1), to(2), SAME))
        claim = ((nat("x"),), (nat("x"), nat("x")))
        fill = (claim, ("fill", 5, (("x", "x"),), (0,), (0,)))
        other = (claim, ("fill", 5, (("x", "x"),), (0,), (1,)))
        paper = (to(2), to(3), (CLAIM, ("put", nat("x"), 4, 6)), (CLAIM, ("put", nat("x"), 7, 6)),
                 fill, SAME, (((nat("x"), nat("x")), (nat("x"),)), ("same", 1, 0)), other)
        self.told(paper, paper)
        same = paper[:7] + (fill,)
        self.told(same, (to(1), (CLAIM, ("put", nat("x"), 2, 4)),
                         (claim, ("fill", 3, (("x", "x"),), (0,), (0,))), SAME, paper[6]))

    def test_unlike_but_for_names(self):
        """Claims that are alike and no more aren't made one, nor steps with other pairs."""
        other = (((nat("y"),), (nat("y"),)), ("same", 0, 0))
        paper = (to(1), (CLAIM, ("fill", 2, (("y", "x"),), (0,), (0,))), other)
        self.told(paper, paper)
        self.told((SAME, other), (SAME, other))
        self.told((SAME, other, SAME, other), (SAME, other))
        claim = ((nat("x"), nat("x")), (nat("x"),))
        steps = (("same", 0, 0), ("same", 1, 0), ("fill", 4, (("x", "x"),), (0,), (0,)),
                 ("fill", 4, (("x", "x"),), (1,), (0,)))
        paper = tuple([(claim, step) for step in steps]) + (SAME,)
        self.told(paper, paper)

    def test_steps_with_other_numbers(self):
        """Another place, rule or atom is another step."""
        left = (nat("x"), nat("y"))
        right = (nat("x"), nat("y"), nat("x"))
        paper = tuple([((left, right), step) for step in (
            ("same", 0, 0), ("same", 0, 2), ("same", 1, 1), ("put", nat("x"), 5, 6),
            ("put", nat("y"), 7, 8))])
        ends = tuple([((left, right + (nat(name),)), ("same", 0, 0)) for name in "xy"]) \
            + tuple([((left + (nat(name),), right), ("same", 0, 0)) for name in "xy"])
        paper = paper + (ends[0], ends[2], ends[1], ends[3])
        self.assertIsNone(paper_stands(BOOK, paper))
        self.told(paper, paper)

    def test_rings_of_like_nodes(self):
        """Rings made one with one another: as many as can be, though each waits for the others."""
        self.told((to(1), to(0)), (to(0),))
        self.told((to(1), to(2), to(0)), (to(0),))
        self.told((to(1), to(2), to(1)), (to(0),))
        self.told((to(0), to(1), to(2)), (to(0),))
        twice = tuple([(claim, step) for claim, step in
                       plain_with_numbers(EVEN_PAPER, range(5), lambda goal: goal + 5)])
        back = plain_with_numbers(EVEN_PAPER, range(5), lambda goal: goal)
        self.told(twice + back, EVEN_PAPER)
        self.told(back + twice, EVEN_PAPER)

    def test_ring_and_what_ends(self):
        """A ring and a chain that ends are unlike at their last nodes, so throughout."""
        paper = (to(1), to(0), to(3), SAME)
        self.told(paper, (to(0), to(2), SAME))

    def test_none_against_a_number(self):
        """Of one claim and saying, so that nothing else tells them apart."""
        one = (CLAIM, ("cases", 0, (None, 0)))
        other = (CLAIM, ("cases", 0, (0, None)))
        third = (CLAIM, ("cases", 0, (None, None)))
        for paper in ((one, other, third), (third, one, other), (other, third, one)):
            self.assertEqual(gathered(paper), plainly_gathered(paper))
            self.assertEqual(len(gathered(paper)), 3)
        self.told((one, one, other, other, third), (one, other, third))

    def test_none_within_papers_that_stand(self):
        left, right = (nat(s("x")), nat("y")), (nat("x"),)
        case = ((left, right), ("cases", 0, (None, 2)))
        other = ((left, right), ("cases", 0, (None, 3)))
        end = (((nat("z"), nat("v")), (nat("z"),)), ("same", 0, 0))
        paper = (case, other, end, end)
        self.assertIsNone(paper_stands(BOOK, paper))
        self.told(paper, (((left, right), ("cases", 0, (None, 1))), end))

    def test_gone_once_more(self):
        """What once_more told, if nothing in the paper was alike, is the paper again."""
        for seed in range(60):
            rng = random.Random(seed)
            paper = rng.choice([EVEN_PAPER, BY_TURNS, FULL_PAPER, LISTED, ALL_FORMS])
            self.told(with_more(rng, paper, rng.randrange(1, 9)), paper)

    def test_by_chance(self):
        fewer = 0
        for _, book, paper in self.by_chance():
            due = plainly_gathered(paper)
            self.told(paper, due)
            fewer += len(due) < len(paper)
            self.assertIsNone(paper_stands(book, due))
        self.assertGreater(fewer, 100)

    def test_let_by_just_where_the_paper_is(self):
        many = {True: 0, False: 0}
        for _, book, paper in self.by_chance():
            right = let_by(book, paper)
            if right is not None:
                self.assertEqual(let_by(book, gathered(paper)), right)
                many[right] += 1
        self.assertGreater(min(many.values()), 50)

    def test_unrolls_into_the_same(self):
        for rng, book, paper, things, whys in [*runs_by_chance(range(300), 10),
                                               *runs_of_nets(range(30))]:
            self.unrolls(book, paper, things, whys)
            self.unrolls(book, mixed(rng, with_more(rng, paper, 4)), things, whys)

    def test_in_short_time(self):
        began = time.perf_counter()
        paper = tuple([to(n + 1) for n in range(39)]) + (SAME,)
        self.assertEqual(gathered(paper), paper)
        paper = tuple([to((n + 1) % 40) for n in range(40)])
        self.assertEqual(gathered(paper), (to(0),))
        for seed in range(20):
            paper = with_more(random.Random(seed), net_of_fills(seed, 24, 5), 16)
            self.assertEqual(gathered(paper), plainly_gathered(paper))
        self.assertLess(time.perf_counter() - began, 4 * SHORT)


class Trimmed(Papers):
    FUNCTION = staticmethod(trimmed)
    PLAINLY = staticmethod(plainly_trimmed)

    def test_all_come_to(self):
        self.told((SAME,), (SAME,))
        self.told(TO_ITSELF, TO_ITSELF)
        for paper in (EVEN_PAPER, BY_TURNS, FULL_PAPER, LISTED):
            self.told(paper, paper)

    def test_first_goal_and_all_behind_it_first(self):
        """A put's first goal leads to a fill to a third node, ahead of the second goal."""
        self.told(ALL_FORMS, (
            (ALL_FORMS[0][0], ("put", nat(s("x")), 1, 3)),
            (ALL_FORMS[1][0], ("use", 1, 1, (2,))), ALL_FORMS[3],
            (ALL_FORMS[2][0], ("fill", 4, (("z", "x"),), (0,), (0,))),
            (ALL_FORMS[4][0], ("cases", 0, (5, 6))), ALL_FORMS[5],
            (ALL_FORMS[6][0], ("use", 0, 1, (7,))),
            (ALL_FORMS[7][0], ("fill", 4, (("z", "w"),), (0,), (0,)))))

    def test_come_to_twice(self):
        """A node has the number by which it is first come to, though goals come to it again."""
        claim = ((nat("x"),), (nat("x"), nat("x")))
        ask = (CLAIM, ("put", nat("x"), 3, 1))
        other = (((nat("x"), nat("x")), (nat("x"),)), ("fill", 2, (("x", "x"),), (1,), (0,)))
        paper = (ask, other, SAME, (claim, ("fill", 2, (("x", "x"),), (0,), (1,))))
        self.assertIsNone(paper_stands(BOOK, paper))
        self.told(paper, ((CLAIM, ("put", nat("x"), 1, 3)),
                          (claim, ("fill", 2, (("x", "x"),), (0,), (1,))), SAME, other))

    def test_deep_goal_ahead_of_a_second_one(self):
        """What is both a second goal and behind the first one is numbered by the first."""
        book_goals = (("use", 0, 1, (1, 2)), ("use", 0, 1, (3,)), ("same", 0, 0), ("use", 0, 1, (2,)))
        paper = tuple([(CLAIM, step) for step in book_goals])
        due = (("use", 0, 1, (1, 3)), ("use", 0, 1, (2,)), ("use", 0, 1, (3,)), ("same", 0, 0))
        self.told(paper, tuple([(CLAIM, step) for step in due]))

    def test_not_come_to(self):
        """Nodes behind, between, and rings of them, that lead to those that stay or not."""
        self.told((SAME, SAME, to(0)), (SAME,))
        self.told((to(2), SAME, SAME), (to(1), SAME))
        self.told((to(3), to(2), to(1), SAME), (to(1), SAME))
        self.told((to(4), to(1), to(3), to(0), to(5), SAME), (to(1), to(2), SAME))
        ring = plain_with_numbers(EVEN_PAPER, range(5), lambda goal: goal + 1)
        self.told((SAME, *ring), (SAME,))
        self.told(EVEN_PAPER + TO_ITSELF, EVEN_PAPER)

    def test_none_passed_over(self):
        left, right = (nat(s("x")), nat("y")), (nat("x"),)
        end = (((nat("z"), nat("v")), (nat("z"),)), ("same", 0, 0))
        paper = (((left, right), ("cases", 0, (None, 2))), SAME, end)
        self.told(paper, (((left, right), ("cases", 0, (None, 1))), end))
        none = ((((nat(("nil",)),), (odd("x"),)), ("cases", 0, (None, None))),)
        self.told(none + (SAME,), none)

    def test_like_nodes_stay(self):
        """Trimming makes nothing one."""
        self.told((to(1), to(2), to(0)), (to(1), to(2), to(0)))

    def test_by_chance(self):
        fewer = 0
        for _, book, paper in self.by_chance():
            due = plainly_trimmed(paper)
            self.told(paper, due)
            fewer += len(due) < len(paper)
            self.assertIsNone(paper_stands(book, due))
        self.assertGreater(fewer, 20)

    def test_let_by_where_the_paper_is(self):
        many = 0
        for _, book, paper in self.by_chance():
            if let_by(book, paper):
                self.assertIs(let_by(book, trimmed(paper)), True)
                many += 1
        self.assertGreater(many, 100)
        # Where a ring that isn't come to is loose the paper isn't let by, trimmed it is.
        paper = (SAME, *[(claim, ("fill", 1, *step[2:])) for claim, step in TO_ITSELF])
        self.assertIs(let_by(BOOK, paper), False)
        self.assertIs(let_by(BOOK, trimmed(paper)), True)

    def test_unrolls_into_the_same(self):
        for rng, book, paper, things, whys in [*runs_by_chance(range(300), 10),
                                               *runs_of_nets(range(30))]:
            self.unrolls(book, paper, things, whys)
            self.unrolls(book, mixed(rng, with_more(rng, paper, 4)), things, whys)


class Both(unittest.TestCase):
    def test_by_turns(self):
        """Gathered, trimmed and gone once more, in any order, papers unroll into the same."""
        for seed in range(40):
            rng = random.Random(seed)
            paper = rng.choice([EVEN_PAPER, ALL_FORMS, net_of_cases(seed, 2, 1)])
            saying = paper[0][0][0][0][0]
            many = 2 * rng.randrange(3) if saying == "even" else rng.randrange(5)
            why = samples_why(many)
            if saying == "even":
                why = even_why(many)
            due = unrolled(BOOK, paper, {"x": number(many)}, (why,))
            for _ in range(6):
                paper = rng.choice([gathered, trimmed, lambda one: with_more(rng, one, 2),
                                    lambda one: mixed(rng, one)])(paper)
                self.assertIsNone(paper_stands(BOOK, paper))
                self.assertEqual(unrolled(BOOK, paper, {"x": number(many)}, (why,)), due)


def even_why(many):
    """The why of an even number."""
    why = (0, ())
    for at in range(many):
        why = (at % 2, (why,))
    return why


if __name__ == "__main__":
    unittest.main()
