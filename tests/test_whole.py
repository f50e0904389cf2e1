"""The promise as a whole (point 3), so far as papers are looked at: rings, and things against."""

import random
import unittest

import sample_papers
import samples
from leanround.against import against, speaks_against
from leanround.errors import Loose
from leanround.papers import paper_stands
from leanround.rings import look, way_ties
from leanround.steps import goals_of
from sample_papers import ALL_FORMS, BY_TURNS, EVEN_PAPER, EXCHANGED, TO_ITSELF, net_of_cases
from samples import BOOK


def papers_by_chance(seeds, most):
    for seed in seeds:
        rng = random.Random(seed)
        book = samples.any_book(rng) if seed % 4 else BOOK
        for _ in range(6):
            paper = sample_papers.any_paper(rng, book, samples.any_claim(rng, book), most)
            if paper is not None:
                yield book, paper


class NeverBoth(unittest.TestCase):
    def ring_of(self, book, paper):
        """The ring that a paper is refused with, or None; there is nothing else."""
        self.assertIsNone(paper_stands(book, paper))
        try:
            self.assertIs(look(book, paper, 10000), True)
        except Loose as refused:
            return refused.ring
        return None

    def check_ring(self, book, paper, ring):
        for (node, k), (behind, _) in zip(ring, ring[1:] + ring[:1]):
            self.assertEqual(goals_of(paper[node][1])[k], behind)
        ties = way_ties(book, paper, ring)
        self.assertEqual(ties.laid(ties), ties)
        self.assertFalse(any([a == b and falls for a, b, falls in ties.arcs()]))

    def never_both(self, book, paper, most):
        """Whether the paper is let by; then nothing speaks against any claim of it."""
        ring = self.ring_of(book, paper)
        if ring is not None:
            self.check_ring(book, paper, ring)
            return False
        for claim, _ in paper:
            self.assertIsNone(against(book, claim, most))
        return True

    def test_written_out(self):
        for paper in (EVEN_PAPER, ALL_FORMS, BY_TURNS, *[net_of_cases(n, 2, 2) for n in range(9)]):
            self.assertIs(self.never_both(BOOK, paper, 6), True)
        for paper in (TO_ITSELF, EXCHANGED):
            self.assertIs(self.never_both(BOOK, paper, 6), False)

    def test_refused_papers_of_what_does_not_hold(self):
        things = against(BOOK, TO_ITSELF[0][0])
        self.assertEqual(things, {"x": ("nil",)})
        self.assertIs(speaks_against(BOOK, TO_ITSELF[0][0], things), True)
        self.assertEqual(against(BOOK, EXCHANGED[0][0]), {"x": ("zero",), "y": ("zero",)})

    def test_small_papers_by_chance(self):
        told = [self.never_both(book, paper, 4) for book, paper in papers_by_chance(range(500), 8)]
        self.assertGreater(told.count(True), 200)
        self.assertGreater(told.count(False), 100)

    def test_large_papers_by_chance(self):
        told = [self.never_both(book, paper, 3) for book, paper in papers_by_chance(range(250), 24)
                if len(paper) > 2]
        self.assertGreater(told.count(True), 20)
        self.assertGreater(told.count(False), 60)


if __name__ == "__main__":
    unittest.main()
