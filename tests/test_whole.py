"""The promise as a whole (point 3): papers that are let by, what they tell, and things against."""

import random
import unittest

import sample_papers
import samples
from leanround.against import against, speaks_against
from leanround.bare import bare, run_bare
from leanround.claims import names_of
from leanround.desk import Desk
from leanround.errors import Loose
from leanround.gathered import gathered, trimmed
from leanround.made import filled, joined, once_more
from leanround.papers import paper_stands
from leanround.plain import leaning, look_plain
from leanround.reader import read_book, read_claim, read_paper, read_term
from leanround.rings import look, way_ties
from leanround.steps import goals_of
from leanround.unrolling import Unrolling, unrolled
from leanround.whys import holds, is_why, why_of
from leanround.writer import book_text, claim_text, paper_text, term_text
from plainly import all_things, atoms_with
from sample_papers import ALL_FORMS, BY_TURNS, EVEN_PAPER, EXCHANGED, TO_ITSELF, net_of_cases
from sample_plain import PLAIN_EVEN, PLAIN_ZERO, TWO_AGAINS
from sample_runs import papers_let_by, runs_by_chance, runs_of_nets
from samples import BOOK


def papers_by_chance(seeds, most):
    for seed in seeds:
        rng = random.Random(seed)
        book = samples.any_book(rng) if seed % 4 else BOOK
        for _ in range(6):
            paper = sample_papers.any_paper(rng, book, samples.any_claim(rng, book), most)
            if paper is not None:
                yield book, paper


class NeverBoth(unittest.TestCase):
    def ring_of(self, book, paper):
        """The ring that a paper is refused with, or None; there is nothing else."""
        self.assertIsNone(paper_stands(book, paper))
        try:
            self.assertIs(look(book, paper, 10000), True)
        except Loose as refused:
            return refused.ring
        return None

    def check_ring(self, book, paper, ring):
        for (node, k), (behind, _) in zip(ring, ring[1:] + ring[:1]):
            self.assertEqual(goals_of(paper[node][1])[k], behind)
        ties = way_ties(book, paper, ring)
        self.assertEqual(ties.laid(ties), ties)
        self.assertFalse(any([a == b and falls for a, b, falls in ties.arcs()]))

    def never_both(self, book, paper, most):
        """Whether the paper is let by; then nothing speaks against any claim of it."""
        ring = self.ring_of(book, paper)
        if ring is not None:
            self.check_ring(book, paper, ring)
            return False
        for claim, _ in paper:
            self.assertIsNone(against(book, claim, most))
        return True

    def test_written_out(self):
        for paper in (EVEN_PAPER, ALL_FORMS, BY_TURNS, *[net_of_cases(n, 2, 2) for n in range(9)]):
            self.assertIs(self.never_both(BOOK, paper, 6), True)
        for paper in (TO_ITSELF, EXCHANGED):
            self.assertIs(self.never_both(BOOK, paper, 6), False)

    def test_refused_papers_of_what_does_not_hold(self):
        things = against(BOOK, TO_ITSELF[0][0])
        self.assertEqual(things, {"x": ("nil",)})
        self.assertIs(speaks_against(BOOK, TO_ITSELF[0][0], things), True)
        self.assertEqual(against(BOOK, EXCHANGED[0][0]), {"x": ("zero",), "y": ("zero",)})

    def test_small_papers_by_chance(self):
        told = [self.never_both(book, paper, 4) for book, paper in papers_by_chance(range(500), 8)]
        self.assertGreater(told.count(True), 200)
        self.assertGreater(told.count(False), 100)

    def test_large_papers_by_chance(self):
        told = [self.never_both(book, paper, 3) for book, paper in papers_by_chance(range(250), 24)
                if len(paper) > 2]
        self.assertGreater(told.count(True), 20)
        self.assertGreater(told.count(False), 60)


class TellTheSame(unittest.TestCase):
    """A paper written and read, looked at, unrolled, run bare and told at a desk."""

    def check(self, book, paper, things):
        claim = paper[0][0]
        whys = [why_of(book, atom) for atom in atoms_with(claim[0], things)]
        if None in whys:
            return False
        again_book, again = read_book(book_text(book)), read_paper(paper_text(paper))
        self.assertEqual((again_book, again), (book, paper))
        self.assertEqual(read_claim(claim_text(claim)), claim)
        self.assertEqual({name: read_term(term_text(things[name])) for name in things}, things)
        told = unrolled(book, paper, things, whys)
        self.assertEqual(unrolled(again_book, again, things, whys), told)
        self.assertEqual(run_bare(bare(again), whys), told)
        unrolling = Unrolling(again_book, again, things, whys)
        while unrolling.turn():
            pass
        self.assertEqual((*unrolling.outcome(), len(unrolling)), told)
        self.at_desk(book, paper, things, told)
        self.told_is_right(book, claim, things, told)
        return True

    def at_desk(self, book, paper, things, told):
        desk = Desk()
        self.assertEqual(desk.say("book " + book_text(book).replace("\n", " ; ")), "kept")
        self.assertEqual(desk.say("paper a " + paper_text(paper).replace("\n", " ; ")),
                         f"nodes {len(paper)}")
        if desk.say("look a") == "let by":
            row = " ".join(["unroll a", *[term_text(things[name]) for name in names_of(paper[0][0])]])
            self.assertEqual(desk.say(row), f"{told[0]} gone {told[2]}")
        self.assertEqual(desk.say("claim a"), claim_text(paper[0][0]))
        self.assertEqual(desk.say("against a 2"), "none")

    def told_is_right(self, book, claim, things, told):
        """A why of one of the right, which so holds: these things don't speak against the claim."""
        j, why, _ = told
        right = atoms_with(claim[1], things)
        self.assertIs(is_why(book, why, right[j]), True)
        self.assertIs(holds(book, right[j]), True)
        self.assertIs(speaks_against(book, claim, things), False)

    def test_nets_and_written_out(self):
        for _, book, paper, things, _ in runs_of_nets(range(30)):
            self.assertIs(self.check(book, paper, things), True)

    def test_by_chance(self):
        many = 0
        for _, book, paper, things, _ in runs_by_chance(range(1000, 1400), 12):
            many += self.check(book, paper, things)
        self.assertGreater(many, 60)

    def test_each_thing(self):
        """Of a paper that is let by each thing that has a why on the left has one on the right."""
        for paper, name in ((EVEN_PAPER, "x"), (ALL_FORMS, "x")):
            told = [self.check(BOOK, paper, {name: thing}) for thing in all_things(BOOK, 5)]
            self.assertGreater(told.count(True), 2)
            self.assertGreater(told.count(False), 2)

    def test_made_papers(self):
        """What is made of a paper that is let by is let by, for its claim, and tells a why."""
        for rng, book, paper in [*papers_let_by(range(150), 8), (random.Random(1), BOOK, EVEN_PAPER),
                                 (random.Random(2), BOOK, BY_TURNS)]:
            left, right = paper[0][0]
            names = names_of(paper[0][0])
            goals = [(n, k) for n, (_, step) in enumerate(paper)
                     for k, goal in enumerate(goals_of(step)) if goal is not None]
            self.assertEqual(filled(paper, ())[0][0], (left, right))
            atom = samples.any_atom(rng, book, names, 2)
            if set(names_of(((), (atom,)))) <= set(names):
                lefts, rights = tuple(range(len(left))), tuple(range(len(right)))
                step = ("fill", 1, tuple([(name, name) for name in names]), lefts, rights)
                moved = filled(paper, ())[1:]
                one = (((left, right + (atom,)), step), *moved)
                other = (((left + (atom,), right), step), *moved)
                self.assertIs(look(book, joined(one, other), 10000), True)
                self.assertEqual(joined(one, other)[0][0], (left, right))
            for made in (filled(paper, ()), once_more(paper, *rng.choice(goals)), gathered(paper),
                         trimmed(paper)):
                self.assertIs(look(book, made, 10000), True)
                self.assertEqual(made[0][0], (left, right))

    def test_plain_papers(self):
        for paper in (PLAIN_ZERO, PLAIN_EVEN, TWO_AGAINS):
            self.assertIs(look_plain(BOOK, paper), True)
            leant = leaning(paper)
            self.assertIs(look(BOOK, leant), True)
            self.assertEqual(read_paper(paper_text(leant)), leant)
            names = names_of(leant[0][0])
            for thing in all_things(BOOK, 5):
                self.check(BOOK, leant, {name: thing for name in names})

    def test_refused_of_what_does_not_hold(self):
        """Nothing is let by at a desk whose claim things speak against there."""
        desk = Desk()
        desk.say("book " + book_text(BOOK).replace("\n", " ; "))
        for paper in (TO_ITSELF, EXCHANGED):
            desk.say("paper a " + paper_text(paper).replace("\n", " ; "))
            self.assertNotEqual(desk.say("against a 5"), "none")
            self.assertEqual(desk.say("look a").split(" ")[0], "loose")


if __name__ == "__main__":
    unittest.main()
