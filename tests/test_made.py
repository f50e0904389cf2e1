"""Papers made of papers (point 18): filled, joined at a saying, gone once more."""

import random
import unittest

import sample_papers
import samples
from leanround.claims import claim_under, names_of
from leanround.errors import NoJoin, NoNode, NoStep
from leanround.gathered import trimmed
from leanround.made import filled, joined, once_more
from leanround.papers import paper_stands
from leanround.rings import look
from leanround.steps import goals_of
from leanround.terms import under
from leanround.unrolling import unrolled
from leanround.whys import is_why
from plainly import atoms_with
from plainly_run import plain_led, plain_with_numbers, plainly_unrolled
from sample_papers import (
    ALL_FORMS, BY_TURNS, EVEN_PAPER, EXCHANGED, TO_ITSELF, even, nat, net_of_cases, net_of_fills,
    odd, s)
from sample_runs import (
    FULL_PAPER, GROWING, LISTED, ONE_WAY, holding, let_by, papers_let_by, runs_by_chance,
    runs_of_nets)
from samples import BOOK, ZERO, number

NIL = ("nil",)


def any_papers(seeds, most=8):
    """(rng, book, paper) of papers by chance that stand, let by or not, and of nets."""
    for seed in seeds:
        rng = random.Random(seed)
        book = samples.any_book(rng) if seed % 2 else BOOK
        paper = sample_papers.any_paper(rng, book, samples.any_claim(rng, book), most)
        if paper is not None:
            yield rng, book, paper
        if seed % 8 == 0:
            yield rng, BOOK, net_of_fills(seed, 6, seed % 3)
            yield rng, BOOK, net_of_cases(seed, 1, 1 + seed % 2)


def from_node(paper, n):
    """The paper with node n in the place of node 0, which stands where that stood."""
    order = list(range(len(paper)))
    order[0], order[n] = n, 0
    return plain_with_numbers(paper, order, order.index)


class Filled(unittest.TestCase):
    def told(self, paper, pairs, due):
        kept = repr((paper, pairs))
        for _ in range(2):
            self.assertEqual(filled(paper, pairs), due)
        self.assertEqual(repr(filled(pairs=pairs, paper=paper)), repr(due))
        self.assertEqual(repr((paper, pairs)), kept)

    def test_one_node(self):
        claim = (nat("x"), nat("y")), (nat("y"), even("x"), nat("x"))
        paper = ((claim, ("same", 0, 2)),)
        for pairs, x, y in (((), "x", "y"), ((("x", s("z")),), s("z"), "y"),
                            ((("y", "x"), ("x", "y")), "y", "x"),
                            ((("x", "x"), ("y", "x")), "x", "x"),
                            ((("y", NIL),), "x", NIL),
                            ((("x", ("put", "y", "w")), ("y", number(2))),
                             ("put", "y", "w"), number(2))):
            due = ((nat(x), nat(y)), (nat(y), even(x), nat(x))), \
                ("fill", 1, (("x", x), ("y", y)), (0, 1), (0, 1, 2))
            self.told(paper, pairs, (due, paper[0]))

    def test_numbers(self):
        """All numbers are one more, None stays; names in the claim's order, whatever the pairs'."""
        paper = ((((nat(s("x")), nat("y")), (nat("x"),)), ("cases", 0, (None, 1))),
                 (((nat("z"), nat("v")), (nat("z"),)), ("same", 0, 0)))
        front = (((nat(s(ZERO)), nat(s("x"))), (nat(ZERO),)),
                 ("fill", 1, (("x", ZERO), ("y", s("x"))), (0, 1), (0,)))
        due = (front, (paper[0][0], ("cases", 0, (None, 2))), paper[1])
        self.told(paper, (("y", s("x")), ("x", ZERO)), due)
        self.told(paper, (("x", ZERO), ("y", s("x"))), due)

    def test_all_forms(self):
        told = filled(ALL_FORMS, (("x", s(ZERO)),))
        self.assertEqual(told[0], (((nat(s(ZERO)),), (("plus", (s(ZERO), ZERO, s(ZERO))),)),
                                   ("fill", 1, (("x", s(ZERO)),), (0,), (0,))))
        self.assertEqual([goals_of(step) for _, step in told[1:]],
                         [(2, 3), (4,), (5,), (), (6, 7), (), (8,), (5,)])
        self.assertEqual([(claim, plain_led((claim, step))[1]) for claim, step in told[1:]],
                         [plain_led(node)[:2] for node in ALL_FORMS])

    def test_without_left_and_without_names(self):
        paper = ((((), (even(ZERO),)), ("use", 0, 0, ())),)
        self.told(paper, (), ((((), (even(ZERO),)), ("fill", 1, (), (), (0,))), paper[0]))

    def test_twice(self):
        paper = filled(filled(TO_ITSELF, (("x", s("y")),)), (("y", "x"),))
        self.assertEqual(paper, (
            (((), (nat(s("x")),)), ("fill", 1, (("y", "x"),), (), (0,))),
            (((), (nat(s("y")),)), ("fill", 2, (("x", s("y")),), (), (0,))),
            (((), (nat("x"),)), ("fill", 2, (("x", "x"),), (), (0,)))))

    def test_makers_that_the_book_has_not(self):
        for term in (("other",), ("s", ("other",)), ("s", "x", "x"), ("zero", "x")):
            paper = filled(EVEN_PAPER, (("x", term),))
            with self.assertRaises(NoStep) as caught:
                look(BOOK, paper)
            self.assertEqual(caught.exception.at, 0)
            self.assertEqual(paper[0][0], ((even(term),), (nat(term),)))

    def any_pairs(self, rng, book, claim):
        names = names_of(claim)
        told = rng.sample(names, rng.randrange(len(names) + 1))
        return tuple([(name, samples.any_term(rng, book, [*names, "new"], 3)) for name in told])

    def test_let_by_just_where_the_paper_is(self):
        many = {True: 0, False: 0}
        for rng, book, paper in any_papers(range(250)):
            right = let_by(book, paper)
            told = filled(paper, self.any_pairs(rng, book, paper[0][0]))
            self.assertIsNone(paper_stands(book, told))
            self.assertEqual(let_by(book, told), right)
            many[right] += 1
        self.assertGreater(min(many.values()), 30)

    def test_unrolls_into_the_same(self):
        many = 0
        rows = list(papers_let_by(range(400), 12))
        for paper in (EVEN_PAPER, ALL_FORMS, BY_TURNS, LISTED, *[paper for _, _, paper, _, _
                                                                 in runs_of_nets(range(30))]):
            rows.append((random.Random(len(paper)), BOOK, paper))
        for rng, book, paper in rows:
            claim = paper[0][0]
            pairs = self.any_pairs(rng, book, claim)
            told = filled(paper, pairs)
            self.assertEqual(told[0][0], claim_under(claim, pairs))
            for things, whys in holding(rng, book, told[0][0], 2):
                worth = {name: under(under(name, pairs), tuple(things.items()))
                         for name in names_of(claim)}
                j, why, gone = unrolled(book, paper, worth, whys)
                self.assertEqual(unrolled(book, told, things, whys), (j, why, gone + 1))
                self.assertEqual(plainly_unrolled(book, told, things, whys)[0], (j, why, gone + 1))
                many += 1
        self.assertGreater(many, 100)


class Joined(unittest.TestCase):
    def no_join(self, one, other):
        for told in (lambda: joined(one, other), lambda: joined(other=other, one=one)):
            with self.assertRaises(NoJoin):
                told()

    def parts(self, left, right, atom, first=("same", 0, 0), second=("same", 0, 0)):
        return (((left, right + (atom,)), first),), (((left + (atom,), right), second),)

    def test_one_node_each(self):
        left, right, atom = (nat("x"), nat("y")), (nat("y"), even("x")), even(s("y"))
        one, other = self.parts(left, right, atom, ("same", 1, 0), ("same", 1, 0))
        due = (((left, right), ("put", atom, 1, 2)), one[0], other[0])
        for _ in range(2):
            self.assertEqual(joined(one, other), due)
        self.assertEqual(repr(joined(other=other, one=one)), repr(due))
        self.assertIsNone(paper_stands(BOOK, due))

    def test_atoms_of_each_kind(self):
        """One that is on the left or on the right already, of new terms, without names."""
        left, right = (nat("x"), nat("y")), (nat("y"), even("x"))
        for atom in (nat("x"), even("x"), nat("y"), ("le", (s("x"), ("put", "y", "x"))), odd(ZERO),
                     ("plus", ("x", "x", NIL))):
            one, other = self.parts(left, right, atom, ("same", 1, 0), ("same", 1, 0))
            told = joined(one, other)
            self.assertEqual(told[0], ((left, right), ("put", atom, 1, 2)))
            self.assertIs(look(BOOK, told), True)

    def test_numbers(self):
        one, other = from_node(ALL_FORMS, 1), from_node(ALL_FORMS, 2)
        told = joined(one, other)
        self.assertEqual(told[0], (ALL_FORMS[0][0], ("put", nat(s("x")), 1, 9)))
        self.assertEqual([goals_of(step) for _, step in told[1:9]],
                         [tuple([goal + 1 for goal in goals_of(step)]) for _, step in one])
        self.assertEqual([goals_of(step) for _, step in told[9:]],
                         [tuple([goal + 9 for goal in goals_of(step)]) for _, step in other])
        self.assertEqual([plain_led(node)[:2] for node in told[1:]],
                         [plain_led(node)[:2] for node in one + other])
        self.assertIs(look(BOOK, told), True)
        for many in range(4):
            things = {"x": number(many)}
            whys = (samples_why(many),)
            told_of = unrolled(BOOK, ALL_FORMS, things, whys)
            self.assertEqual(unrolled(BOOK, told, things, whys), told_of)

    def test_none_in_the_goals(self):
        atom = nat(s("y"))
        one = ((((nat(s("x")), nat("y")), (nat("x"), atom)), ("cases", 0, (None, 1))),
               (((nat("z"), nat("v")), (nat("z"), nat(s("v")))), ("same", 0, 0)))
        other = ((((nat(s("x")), nat("y"), atom), (nat("x"),)), ("cases", 0, (None, 1))),
                 (((nat("z"), nat("v"), nat(s("v"))), (nat("z"),)), ("same", 0, 0)))
        told = joined(one, other)
        self.assertEqual([goals_of(step) for _, step in told], [(1, 3), (None, 2), (), (None, 4), ()])
        self.assertIs(look(BOOK, told), True)

    def test_second_claim_not_due(self):
        left, right, atom = (nat("x"), nat("y")), (nat("y"), even("x")), even("y")
        one, other = self.parts(left, right, atom)
        joined(one, other)
        for other_left in (left, left + (odd("y"),), left + (even("x"),), left + (even(s("y")),),
                           (atom,) + left, (nat("x"), atom, nat("y")), left[:1] + (atom,),
                           left + (atom, atom), left + (nat("x"), atom), left + (atom, nat("x")),
                           (nat("y"), nat("x"), atom), (nat("x"), nat("z"), atom), (atom,), ()):
            self.no_join(one, (((other_left, right), ("same", 0, 0)),))
        for other_right in (right + (atom,), right[:1], right[::-1], (nat("y"), even("z")),
                            (nat("y"), odd("x")), right + (nat("x"),), (atom,) + right):
            self.no_join(one, (((left + (atom,), other_right), ("same", 0, 0)),))

    def test_first_claim_has_it_elsewhere(self):
        left, right, atom = (nat("x"), nat("y")), (nat("y"), even("x")), even("y")
        _, other = self.parts(left, right, atom)
        for one_right in (right, (atom,) + right, (nat("y"), atom, even("x")), right + (atom, atom),
                          right[:1] + (atom,), (atom,), right + (nat("x"),), right + (odd("y"),)):
            self.no_join((((left, one_right), ("same", 0, 0)),), other)
        for one_left in ((), left + (atom,), left[::-1], left[:1]):
            self.no_join((((one_left, right + (atom,)), ("same", 0, 0)),), other)

    def test_exchanged(self):
        one, other = self.parts((nat("x"),), (even("x"),), odd("x"))
        self.no_join(other, one)
        self.no_join(one, one)
        self.no_join(other, other)

    def test_alike_is_not_the_same(self):
        """With names exchanged the second one is alike to the one that is due, and no more."""
        one, _ = self.parts((nat("x"),), (even("x"),), odd("x"))
        _, other = self.parts((nat("y"),), (even("y"),), odd("y"))
        self.no_join(one, other)

    def test_name_that_the_claim_has_not(self):
        left, right = (nat("x"),), (even("y"),)
        for atom in (odd("z"), ("le", ("x", "z")), nat(s(s("z"))), ("le", (("put", "x", "w"), "y"))):
            self.no_join(*self.parts(left, right, atom))
        for atom in (odd("y"), odd("x"), ("le", (s("x"), "y"))):
            joined(*self.parts(left, right, atom))

    def test_without_left(self):
        one, other = self.parts((), (even(ZERO),), odd(ZERO), ("use", 0, 0, ()), ("use", 0, 0, ()))
        self.assertEqual(joined(one, other)[0], (((), (even(ZERO),)), ("put", odd(ZERO), 1, 2)))
        self.assertIs(look(BOOK, joined(one, other)), True)

    def fronted(self, paper, claim, lefts, rights):
        """A paper of a claim that is led by a fill to one of a claim within it."""
        names = names_of(paper[0][0])
        step = ("fill", 1, tuple([(name, name) for name in names]), lefts, rights)
        rows = plain_with_numbers(paper, range(len(paper)), lambda goal: goal + 1)
        return ((claim, step), *rows)

    def test_let_by_just_where_both_are(self):
        many = {}
        papers = [told for told in any_papers(range(260)) if let_by(told[1], told[2]) is not None]
        for rng, book, paper in papers:
            left, right = paper[0][0]
            names = names_of(paper[0][0])
            atom = samples.any_atom(rng, book, names, 2) if names else None
            if atom is None:
                continue
            lefts, rights = tuple(range(len(left))), tuple(range(len(right)))
            loose = self.at_itself(left + (atom,), right)
            one = self.fronted(paper, (left, right + (atom,)), lefts, rights)
            other = self.fronted(paper, (left + (atom,), right), lefts, rights)
            for second, right_of_both in ((other, let_by(book, paper)), (loose, False)):
                told = joined(one, second)
                self.assertIsNone(paper_stands(book, told))
                self.assertEqual(let_by(book, told), right_of_both)
                many[right_of_both] = many.get(right_of_both, 0) + 1
            self.assertIs(let_by(book, joined(self.at_itself(left, right + (atom,)), other)), False)
        self.assertGreater(min(many.values()), 40)

    def at_itself(self, left, right):
        """A paper of a claim that leads to itself."""
        pairs = tuple([(name, name) for name in names_of((left, right))])
        step = ("fill", 0, pairs, tuple(range(len(left))), tuple(range(len(right))))
        return (((left, right), step),)

    def test_tells_a_why(self):
        """Joined papers needn't unroll into what one did, but into a why of one of the right."""
        many = 0
        for rng, book, paper, things, whys in [*runs_by_chance(range(300), 10),
                                               *runs_of_nets(range(30))]:
            left, right = paper[0][0]
            names = names_of(paper[0][0])
            if not names:
                continue
            atom = rng.choice(left) if left else samples.any_atom(rng, book, names, 2)
            lefts, rights = tuple(range(len(left))), tuple(range(len(right)))
            one = self.fronted(paper, (left, right + (atom,)), lefts, rights)
            if left:
                one = (((left, right + (atom,)), ("same", left.index(atom), len(right))),)
            other = self.fronted(paper, (left + (atom,), right), lefts, rights)
            told = joined(one, other)
            j, why, gone = unrolled(book, told, things, whys)
            self.assertEqual((j, why, gone), plainly_unrolled(book, told, things, whys)[0])
            self.assertIs(is_why(book, why, atoms_with(right, things)[j]), True)
            alone = unrolled(book, paper, things, whys)
            self.assertEqual((j, why, gone), (*alone[:2], alone[2] + (3 if left else 2)))
            many += 1
        self.assertGreater(many, 80)


def samples_why(many):
    """The why of a number."""
    why = (0, ())
    for _ in range(many):
        why = (1, (why,))
    return why


class OnceMore(unittest.TestCase):
    def told(self, paper, n, k, due):
        kept = repr(paper)
        for _ in range(2):
            self.assertEqual(once_more(paper, n, k), due)
        self.assertEqual(repr(once_more(k=k, n=n, paper=paper)), repr(due))
        self.assertEqual(repr(paper), kept)

    def no_node(self, paper, n, k, at):
        for told in (lambda: once_more(paper, n, k), lambda: once_more(k=k, n=n, paper=paper)):
            with self.assertRaises(NoNode) as caught:
                told()
            self.assertEqual(caught.exception.at, at)

    def test_first_and_second_goal(self):
        rows = EVEN_PAPER
        self.told(rows, 0, 0, (((rows[0][0], ("cases", 0, (5, 2))),) + rows[1:] + (rows[1],)))
        self.told(rows, 0, 1, (((rows[0][0], ("cases", 0, (1, 5))),) + rows[1:] + (rows[2],)))
        self.told(rows, 4, 0, rows[:4] + ((rows[4][0], ("use", 0, 1, (5,))), rows[0]))

    def test_each_form(self):
        rows = ALL_FORMS
        front = (rows[0][0], ("put", nat(s("x")), 8, 2))
        self.told(rows, 0, 0, (front,) + rows[1:] + (rows[1],))
        front = (rows[0][0], ("put", nat(s("x")), 1, 8))
        self.told(rows, 0, 1, (front,) + rows[1:] + (rows[2],))
        fill = (rows[7][0], ("fill", 8, (("z", "w"),), (0,), (0,)))
        self.told(rows, 7, 0, rows[:7] + (fill, rows[4]))
        use = (LISTED[2][0], ("use", 0, 1, (3, 5)))
        self.told(LISTED, 2, 1, LISTED[:2] + (use,) + LISTED[3:] + (LISTED[4],))
        use = (LISTED[2][0], ("use", 0, 1, (5, 4)))
        self.told(LISTED, 2, 0, LISTED[:2] + (use,) + LISTED[3:] + (LISTED[3],))

    def test_one_of_two_goals_that_are_one(self):
        """Of goals that are the same node the k-th alone leads to the new one."""
        use = (FULL_PAPER[4][0], ("use", 0, 1, (6, 5)))
        self.told(FULL_PAPER, 4, 0, FULL_PAPER[:4] + (use, FULL_PAPER[5], FULL_PAPER[5]))
        use = (FULL_PAPER[4][0], ("use", 0, 1, (5, 6)))
        self.told(FULL_PAPER, 4, 1, FULL_PAPER[:4] + (use, FULL_PAPER[5], FULL_PAPER[5]))

    def test_goal_that_is_the_node(self):
        """The new one leads where the node led: to that itself."""
        fill = (TO_ITSELF[0][0], ("fill", 1, (("x", "x"),), (), (0,)))
        self.told(TO_ITSELF, 0, 0, (fill, TO_ITSELF[0]))
        paper = once_more(once_more(TO_ITSELF, 0, 0), 1, 0)
        again = (TO_ITSELF[0][0], ("fill", 2, (("x", "x"),), (), (0,)))
        self.assertEqual(paper, (fill, again, fill))

    def test_no_node_ahead_of_no_goal(self):
        for n in (-1, -2, 5, 6, 10 ** 30, -10 ** 30):
            for k in (-1, 0, 1, 2, 7):
                self.no_node(EVEN_PAPER, n, k, n)

    def test_no_goal(self):
        for n, many in ((0, 2), (1, 0), (2, 1), (3, 1), (4, 1)):
            for k in (-1, -2, many, many + 1, 10 ** 30):
                self.no_node(EVEN_PAPER, n, k, k)
        self.no_node(ALL_FORMS, 3, 0, 0)
        self.no_node(ALL_FORMS, 0, 2, 2)
        self.no_node(ALL_FORMS, 0, -1, -1)
        self.no_node(TO_ITSELF, 0, 1, 1)

    def test_goal_that_is_none(self):
        paper = ((((nat(s("x")), nat("y")), (nat("x"),)), ("cases", 0, (None, 1))),
                 (((nat("z"), nat("v")), (nat("z"),)), ("same", 0, 0)))
        self.no_node(paper, 0, 0, 0)
        front = (paper[0][0], ("cases", 0, (None, 2)))
        self.told(paper, 0, 1, (front, paper[1], paper[1]))

    def any_goal(self, rng, paper):
        goals = [(n, k) for n, (_, step) in enumerate(paper)
                 for k, goal in enumerate(goals_of(step)) if goal is not None]
        return rng.choice(goals) if goals else None

    def test_let_by_just_where_the_paper_is(self):
        many = {True: 0, False: 0}
        for rng, book, paper in any_papers(range(250)):
            right = let_by(book, paper)
            for _ in range(2):
                at = self.any_goal(rng, paper)
                if at is None:
                    break
                paper = once_more(paper, *at)
                self.assertIsNone(paper_stands(book, paper))
                told = let_by(book, paper)
                self.assertIn(told, (None, right))
                many[right] += told is not None
        self.assertGreater(min(many.values()), 30)
        for n, k in ((0, 0), (1, 0)):
            self.assertIs(let_by(BOOK, once_more(once_more(EXCHANGED, 0, 0), n, k)), False)

    def test_unrolls_into_the_same(self):
        for rng, book, paper, things, whys in [*runs_by_chance(range(400), 10),
                                               *runs_of_nets(range(40))]:
            due = unrolled(book, paper, things, whys)
            for _ in range(3):
                paper = once_more(paper, *self.any_goal(rng, paper))
                self.assertEqual(unrolled(book, paper, things, whys), due)
            self.assertEqual(plainly_unrolled(book, paper, things, whys)[0], due)
            self.assertEqual(unrolled(book, trimmed(paper), things, whys), due)

    def test_of_one_that_is_not_let_by(self):
        for n, k in ((2, 0), (0, 1), (0, 0)):
            paper = once_more(ONE_WAY, n, k)
            self.assertIs(let_by(BOOK, paper), False)
            self.assertEqual(unrolled(BOOK, paper, {"x": ZERO}, ((0, ()),)), (1, (0, ()), 2))

    def test_growing(self):
        paper = FULL_PAPER
        for n, k in ((3, 0), (0, 1), (2, 1), (4, 0), (6, 1)):
            paper = once_more(paper, n, k)
        things, whys = {"x": number(7)}, (samples_why(7),)
        self.assertIs(let_by(GROWING, paper), True)
        self.assertEqual(unrolled(GROWING, paper, things, whys),
                         unrolled(GROWING, FULL_PAPER, things, whys))


if __name__ == "__main__":
    unittest.main()
