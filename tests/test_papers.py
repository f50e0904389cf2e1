"""Which nodes stand, and which papers (points 11 and 12)."""

import random
import time
import unittest

import plainly
import sample_papers
import samples
from leanround.papers import paper_stands, stands
from sample_papers import ALL_FORMS, BY_TURNS, EVEN_PAPER, EXCHANGED, TO_ITSELF, even, nat, odd, s
from samples import BOOK, ZERO

LISTED = ("list", (("put", "a", "b"),))
SHORT = 5


def le(one, other):
    return ("le", (one, other))


def boxed(top, depth):
    """Something this many tuples within one another."""
    for _ in range(depth):
        top = (top,)
    return top


JUNK = ["", "x", "same", "nat", "X", 0, 1, -1, 2, 40, 10 ** 30, True, False, None, (), ("",), (0,),
        (None,), (True,), ("same",), ("same", 0), ("cases", 0), ("nat", ()), ("nat", ("x",)),
        ((), ()), ((), (("nat", ("x",)),)), (("x", "y"),), boxed("x", 12), boxed((), 11),
        boxed(None, 12), ("s", ("s", ("s", ("s", ("s", ("s", ("s", ("s", "x")))))))),
        tuple([("nat", ("x",))] * 30), ((("s",), "x"),), ("put", "x", 1), ("s", True)]


class Nodes(unittest.TestCase):
    def told(self, paper, n, right, book=BOOK):
        for _ in range(2):
            self.assertIs(stands(book, paper, n), right, paper[n])
        self.assertIs(stands(book=book, paper=paper, n=n), right)

    def with_claim(self, paper, n, claim):
        return (*paper[:n], (claim, paper[n][1]), *paper[n + 1:])

    def with_step(self, paper, n, step):
        return (*paper[:n], (paper[n][0], step), *paper[n + 1:])

    def broken(self, paper, n, *steps):
        """Each of these steps doesn't stand in the place of the node's, which does."""
        self.told(paper, n, True)
        for step in steps:
            self.told(self.with_step(paper, n, step), n, False)

    def wrong_claims(self, paper, n, at, *claims):
        """The node doesn't stand with each of these claims at node at."""
        self.told(paper, n, True)
        for claim in claims:
            self.told(self.with_claim(paper, at, claim), n, False)


class Same(Nodes):
    PAPER = ((((nat("x"), nat("y")), (even("x"), nat("y"))), ("same", 1, 1)),)

    def test_stands(self):
        self.told(self.PAPER, 0, True)
        self.told(ALL_FORMS, 3, True)

    def test_places(self):
        self.broken(self.PAPER, 0, ("same", 0, 1), ("same", 1, 0), ("same", 2, 1), ("same", 1, 2),
                    ("same", -1, 1), ("same", 1, -1), ("same", -1, -1), ("same", 10 ** 30, 1))

    def test_truths_and_others_for_numbers(self):
        for wrong in (True, "1", None, (1,), ()):
            self.broken(self.PAPER, 0, ("same", wrong, 1), ("same", 1, wrong))
        zero = ((((nat("x"),), (nat("x"),)), ("same", 0, 0)),)
        for wrong in (False, "", None, ()):
            self.broken(zero, 0, ("same", wrong, 0), ("same", 0, wrong))

    def test_more_and_fewer(self):
        self.broken(self.PAPER, 0, ("same",), ("same", 1), ("same", 1, 1, 1), ("same", 1, 1, ()))


class Cases(Nodes):
    BOTH = (
        (((nat("x"),), (nat("x"),)), ("cases", 0, (1, 2))),
        (((), (nat(ZERO),)), ("use", 0, 0, ())),
        (((nat("y"),), (nat(s("y")),)), ("use", 0, 1, (3,))),
        (((nat("y"),), (nat("y"),)), ("same", 0, 0)),
    )
    NONE = (
        (((nat(s("x")), nat("y")), (nat("x"),)), ("cases", 0, (None, 1))),
        (((nat("z"), nat("v")), (nat("z"),)), ("same", 0, 0)),
    )

    def test_stands(self):
        for paper in (self.BOTH, self.NONE):
            for n in range(len(paper)):
                self.told(paper, n, True)

    def test_saying_without_rules(self):
        book = (BOOK[0], (("no", 1, 0, ()), *BOOK[1]))
        paper = (((("no", ("x",)),), (nat("x"),)), ("cases", 0, ()))
        self.told((paper,), 0, True, book)

    def test_goals(self):
        for goal in (-1, 4, 10 ** 30, None, True, "1", (1,), 0, 2):
            self.broken(self.BOTH, 0, ("cases", 0, (goal, 2)))
        for goal in (-2, 4, 10 ** 30, None, True, "2", (2,), 0, 1):
            self.broken(self.BOTH, 0, ("cases", 0, (1, goal)))

    def test_number_where_none_is_due(self):
        for goal in (0, 1, -1, True, "", ()):
            self.broken(self.NONE, 0, ("cases", 0, (goal, 1)))
        self.broken(self.NONE, 0, ("cases", 0, (None, None)))

    def test_goals_more_and_fewer(self):
        self.broken(self.BOTH, 0, ("cases", 0, ()), ("cases", 0, (1,)), ("cases", 0, (1, 2, 2)),
                    ("cases", 0, (1, 2, None)), ("cases", 0, 1), ("cases", 0, None),
                    ("cases", 0, "12"), ("cases", 0, ((1, 2),)))

    def test_place(self):
        for i in (-1, 1, 10 ** 30, False, None, "0", (), (0,)):
            self.broken(self.BOTH, 0, ("cases", i, (1, 2)))

    def test_more_and_fewer(self):
        self.broken(self.BOTH, 0, ("cases",), ("cases", 0), ("cases", (1, 2)),
                    ("cases", 0, (1, 2), 3), ("cases", 0, 0, (1, 2)))

    def test_claim_alike_to_the_due_one(self):
        for name in ("x", "y", "a", "abcdefgh"):
            paper = self.with_claim(self.BOTH, 2, ((nat(name),), (nat(s(name)),)))
            self.told(paper, 0, True)

    def test_claim_that_is_not(self):
        self.wrong_claims(
            self.BOTH, 0, 2, ((nat("y"),), (nat(s("x")),)), ((nat("y"),), (nat("y"),)),
            ((nat("y"), nat("y")), (nat(s("y")),)), ((), (nat(s("y")),)),
            ((nat("y"),), (nat(s("y")), nat("y"))), ((even("y"),), (nat(s("y")),)),
            ((nat("X"),), (nat(s("X")),)), ((nat("if"),), (nat(s("if")),)),
            ((nat("y"),), ()), None, "nat", 0, (), ((nat("y"),),), ((nat(""),), (nat(s("")),)),
            ((nat("y"),), (nat(s("y")),), ()))
        self.wrong_claims(self.BOTH, 0, 1, ((), (nat("x"),)), ((), (nat(("nil",)),)), True,
                          ((nat(ZERO),), (nat(ZERO),)))


class Use(Nodes):
    PAPER = (
        (((nat("c"),), (nat("b"), LISTED)), ("use", 1, 1, (1, 2))),
        (((nat("c"),), (nat("b"), nat("a"))), ("same", 0, 0)),
        (((nat("c"),), (nat("b"), ("list", ("b",)))), ("same", 0, 0)),
        (((), (nat(ZERO),)), ("use", 0, 0, ())),
    )

    def test_stands(self):
        self.told(self.PAPER, 0, True)
        self.told(self.PAPER, 3, True)

    def test_goals(self):
        for goal in (-3, -1, 4, 10 ** 30, None, True, "1", (1,), 0, 2):
            self.broken(self.PAPER, 0, ("use", 1, 1, (goal, 2)))
        for goal in (-2, 4, None, False, 1):
            self.broken(self.PAPER, 0, ("use", 1, 1, (1, goal)))

    def test_goals_more_and_fewer(self):
        self.broken(self.PAPER, 0, ("use", 1, 1, ()), ("use", 1, 1, (1,)),
                    ("use", 1, 1, (1, 2, 2)), ("use", 1, 1, None), ("use", 1, 1, 1),
                    ("use", 1, 1, "12"), ("use", 1, 1, (1, 2, None)))
        self.broken(self.PAPER, 3, ("use", 0, 0, (0,)), ("use", 0, 0, (None,)))

    def test_places_and_rules(self):
        for i in (-1, 0, 2, 10 ** 30, True, "1", None):
            self.broken(self.PAPER, 0, ("use", i, 1, (1, 2)))
        for r in (-1, 0, 2, 4, 10 ** 30, True, "1", None):
            self.broken(self.PAPER, 0, ("use", 1, r, (1, 2)))
        for wrong in (False, None, ""):
            self.broken(self.PAPER, 3, ("use", wrong, 0, ()), ("use", 0, wrong, ()))

    def test_heads_that_do_not_match(self):
        self.wrong_claims(self.PAPER, 3, 3, ((), (nat("x"),)), ((), (nat(s(ZERO)),)),
                          ((), (nat(("nil",)),)))

    def test_more_and_fewer(self):
        self.broken(self.PAPER, 0, ("use", 1, 1), ("use", 1, (1, 2)), ("use",),
                    ("use", 1, 1, (1, 2), ()), ("use", 1, 1, 1, 2))

    def test_claim_alike_but_not_the_same(self):
        self.wrong_claims(
            self.PAPER, 0, 1, ((nat("x"),), (nat("y"), nat("z"))),
            ((nat("c"),), (nat("a"), nat("b"))), ((nat("c"),), (nat("b"), nat("x"))),
            ((nat("c"),), (nat("a"), nat("a"))), ((nat("c"), nat("c")), (nat("b"), nat("a"))),
            ((), (nat("b"), nat("a"))), ((nat("c"),), (nat("a"),)),
            ((nat("c"),), (even("b"), nat("a"))), 5, None, ())


class Fill(Nodes):
    PAPER = (
        (((nat("x"), nat(s("y"))), (le("x", "y"), nat("y"))),
         ("fill", 1, (("a", s("y")), ("b", "y")), (1,), (1, 1))),
        (((nat("a"),), (nat("b"), nat("b"))), ("same", 0, 0)),
    )

    def test_stands(self):
        self.told(self.PAPER, 0, True)
        self.told(TO_ITSELF, 0, True)
        self.told(EXCHANGED, 0, True)

    def test_goal_claim(self):
        self.wrong_claims(
            self.PAPER, 0, 1, ((nat("b"),), (nat("a"), nat("a"))), ((nat("a"),), (nat("b"),)),
            ((), (nat("b"), nat("b"))), ((nat("a"), nat("a")), (nat("b"), nat("b"))),
            ((nat("a"),), (nat("b"), nat("c"))), ((even("a"),), (nat("b"), nat("b"))),
            ((nat("a"),), ()), (), None, "a", True, 3, ((nat("A"),), (nat("b"), nat("b"))))

    def test_goal_claim_with_what_is_no_name(self):
        for name in ("X", "if", "", "abcdefghi"):
            paper = ((((), (nat(ZERO),)), ("fill", 1, ((name, ZERO),), (), (0,))),
                     (((), (nat(name),)), ("same", 0, 0)))
            self.told(paper, 0, False)

    def test_goal_claim_without_a_right(self):
        paper = ((((nat("x"),), (nat("x"),)), ("fill", 1, (("x", "x"),), (0,), ())),
                 (((nat("x"),), ()), ("same", 0, 0)))
        self.told(paper, 0, False)

    def with_parts(self, goal=1, pairs=PAPER[0][1][2], lefts=(1,), rights=(1, 1)):
        self.broken(self.PAPER, 0, ("fill", goal, pairs, lefts, rights))

    def test_goal(self):
        for goal in (-1, 2, 0, 10 ** 30, None, True, "1", (1,), ()):
            self.with_parts(goal=goal)
        for goal in (False, None, -1, 1, "", ()):
            self.broken(TO_ITSELF, 0, ("fill", goal, (("x", "x"),), (), (0,)))

    def test_lefts_and_rights(self):
        for lefts in ((), (0,), (-1,), (2,), (True,), (None,), ("1",), 1, True, None, "1", "",
                      (1, 1), ((1,),), (10 ** 30,)):
            self.with_parts(lefts=lefts)
        for rights in ((), (1,), (0, 1), (1, -1), (1, 2), (True, 1), (1, None), 1, None, "11",
                       (1, 1, 1), ((1, 1),)):
            self.with_parts(rights=rights)

    def test_pairs(self):
        pair, other = self.PAPER[0][1][2]
        for pairs in ((), (pair,), (other, pair), (pair, other, ("c", "x")), (pair, other, other),
                      None, 0, "ab", True, (pair, None), (pair, "by"), (pair, ("b",)),
                      (pair, ("b", "y", "y")), (pair, ("c", "y")), (pair, ("b", "x")),
                      (pair, ("b", "b")), (pair, ("b", 1)), (pair, ("b", True)),
                      (pair, ("b", None)), (pair, ("b", ())), (pair, (0, "y")), (pair, ((), "y")),
                      (pair, ("b", ("y",))), (pair, ("b", boxed("y", 9)))):
            self.with_parts(pairs=pairs)

    def test_more_and_fewer(self):
        step = self.PAPER[0][1]
        self.broken(self.PAPER, 0, *[step[:many] for many in range(1, 5)], (*step, ()),
                    (*step, 1), ("fill", (1,), *step[2:]))


class Put(Nodes):
    PAPER = (
        (((nat("x"),), (odd("y"),)), ("put", even("x"), 1, 2)),
        (((nat("x"),), (odd("y"), even("x"))), ("same", 0, 0)),
        (((nat("x"), even("x")), (odd("y"),)), ("same", 0, 0)),
    )

    def test_stands(self):
        self.told(self.PAPER, 0, True)
        self.told(ALL_FORMS, 0, True)

    def test_goals(self):
        for one in (-1, 3, 2, 0, None, True, "1", (), (1,)):
            self.broken(self.PAPER, 0, ("put", even("x"), one, 2))
        for other in (-1, 3, 1, 0, None, "2", (), (2,)):
            self.broken(self.PAPER, 0, ("put", even("x"), 1, other))

    def test_atom(self):
        for atom in (even("y"), odd("x"), even("z"), ("even", ()), ("even", "x"), ("even",),
                     ("even", ("x", "x")), ("no", ("x",)), "even", "", None, True, 0, (),
                     ("even", ("x",), ()), ("even", (("q",),)), (0, ("x",)), (("even",), ("x",)),
                     ("even", (None,)), ("even", (True,)), ("even", ((),)), ("even", (("s",),))):
            self.broken(self.PAPER, 0, ("put", atom, 1, 2))

    def test_name_that_the_claim_has_not(self):
        paper = (
            (((nat("x"),), (odd("y"),)), ("put", even("z"), 1, 2)),
            (((nat("x"),), (odd("y"), even("z"))), ("same", 0, 0)),
            (((nat("x"), even("z")), (odd("y"),)), ("same", 0, 0)),
        )
        self.told(paper, 0, False)

    def test_atom_ahead(self):
        self.wrong_claims(self.PAPER, 0, 1, ((nat("x"),), (even("x"), odd("y"))),
                          ((nat("a"),), (odd("b"), even("a"))), ((nat("x"),), (odd("y"),)))
        self.wrong_claims(self.PAPER, 0, 2, ((even("x"), nat("x")), (odd("y"),)),
                          ((nat("a"), even("a")), (odd("b"),)), ((nat("x"),), (odd("y"),)))

    def test_more_and_fewer(self):
        self.broken(self.PAPER, 0, ("put",), ("put", even("x")), ("put", even("x"), 1),
                    ("put", even("x"), 1, 2, 2), ("put", 1, 2), ("put", even("x"), (1, 2)))


class Claims(Nodes):
    def refused(self, *claims):
        for claim in claims:
            self.told(((claim, ("same", 0, 0)),), 0, False)

    def test_of_the_book(self):
        self.told(((((nat("x"),), (nat("x"),)), ("same", 0, 0)),), 0, True)

    def test_each_atom(self):
        good = nat("x")
        wrong = [("no", ("x",)), ("NAT", ("x",)), ("", ("x",)), ("s", ("x",)), ("nat", ()),
                 ("nat", ("x", "x")), ("le", ("x",)), ("le", ("x", "x", "x")), nat(("q",)),
                 nat(("q", "x")), nat(("s",)), nat(("s", "x", "x")), nat(("zero", "x")),
                 nat(("put", "x")), nat(s(("zero", ZERO))), nat("X"), nat(""), nat("to"),
                 nat("abcdefghi"), nat(s("lefts")), nat(0), nat(None), nat(True), nat(()),
                 nat((None,)), nat((0, "x")), ("nat", "x"), ("nat", None), ("nat", 0), "nat",
                 None, 0, True, (), ("nat",), ("nat", ("x",), ()), (("nat",), ("x",)),
                 (None, ("x",))]
        for atom in wrong:
            self.refused(((good, atom), (good,)), ((good,), (good, atom)))
            self.refused(((atom,), (atom,)))

    def test_without_a_right(self):
        self.refused(((nat("x"),), ()), ((), ()))
        book = (BOOK[0], (("no", 1, 0, ()),))
        self.told(((((("no", ("x",)),), ()), ("cases", 0, ())),), 0, False, book)
        self.told(((((("no", ("x",)),), (("no", ("y",)),)), ("cases", 0, ())),), 0, True, book)

    def test_no_claims(self):
        self.refused(*[told for told in JUNK if told != ((), (("nat", ("x",)),))])
        good = (nat("x"),)
        for told in JUNK:
            if told not in (good, (), good * 30):
                self.refused((good, told), (told, good))
        self.refused((good, good, good), (good,), good)


class Steps(Nodes):
    def test_no_steps(self):
        claim = ((nat("x"),), (nat("x"),))
        for step in JUNK:
            self.told(((claim, step),), 0, False)

    def test_no_words(self):
        claim = ((nat("x"),), (nat("x"),))
        for word in ("Same", "", "same ", "again", "hyp", None, 0, True, (), ("same",), "samesame"):
            self.told(((claim, (word, 0, 0)),), 0, False)

    def test_junk_in_each_place(self):
        for paper in (EVEN_PAPER, ALL_FORMS, EXCHANGED):
            for n, (claim, step) in enumerate(paper):
                for at in range(len(step)):
                    for told in JUNK:
                        other = self.with_step(paper, n, (*step[:at], told, *step[at + 1:]))
                        self.told(other, n, plainly.plainly_stands(BOOK, other, n))


class Papers(unittest.TestCase):
    def told(self, book, paper, first):
        for _ in range(2):
            self.assertEqual(paper_stands(book, paper), first)
        self.assertEqual(paper_stands(book=book, paper=paper), first)

    def test_stand(self):
        for paper in (EVEN_PAPER, ALL_FORMS, TO_ITSELF, EXCHANGED, BY_TURNS):
            self.assertIsNone(paper_stands(BOOK, paper))
            self.told(BOOK, paper, None)

    def test_first_that_does_not(self):
        for paper in (EVEN_PAPER, ALL_FORMS, BY_TURNS):
            nodes = list(paper)
            for n in range(len(paper) - 1, -1, -1):
                nodes[n] = (nodes[n][0], ("same", 9, 9))
                self.told(BOOK, tuple(nodes), n)

    def test_whole_number_is_told(self):
        paper = ((((nat("x"),), (nat("x"),)), "same"),)
        self.assertIs(paper_stands(BOOK, paper).__class__, int)

    def test_of_junk_alone(self):
        for claim in JUNK:
            for step in JUNK:
                self.told(BOOK, ((claim, step),), 0)

    def test_another_book(self):
        """A book without the sayings of the paper, or where these are of other rules."""
        self.told(((), ()), EVEN_PAPER, 0)
        self.told((BOOK[0], ()), EVEN_PAPER, 0)
        self.told((BOOK[0], BOOK[1][1:]), EVEN_PAPER, 0)
        self.told((BOOK[0], (*BOOK[1][:2], ("odd", 1, 0, ()), *BOOK[1][3:])), EVEN_PAPER, 3)

    def test_by_chance(self):
        many = 0
        for seed in range(250):
            rng = random.Random(seed)
            book = samples.any_book(rng)
            paper = sample_papers.any_paper(rng, book, samples.any_claim(rng, book), 8)
            if paper is not None:
                many += 1
                self.told(book, paper, None)
                for n in range(len(paper)):
                    self.assertTrue(plainly.plainly_stands(book, paper, n))
        self.assertGreater(many, 80)

    def changed(self, rng, told, others):
        """What is told with one thing anywhere within it changed."""
        if not isinstance(told, tuple) or not told or rng.random() < 0.15:
            return rng.choice(others)
        if rng.random() < 0.1:
            at = rng.randrange(len(told) + 1)
            return (*told[:at], rng.choice(others), *told[at:])
        at = rng.randrange(len(told))
        if rng.random() < 0.1:
            return (*told[:at], *told[at + 1:])
        return (*told[:at], self.changed(rng, told[at], others), *told[at + 1:])

    def test_changed_by_chance(self):
        """Papers that stand, with one thing changed, as they are told of in a plain way."""
        others = ["x", "y", "z", "a", 0, 1, 2, 3, -1, None, True, False, (), "nat", "even", ZERO,
                  ("s", "x"), (0,), (0, 1), nat("x"), even("x"), ("x", "y"), (("x", "x"),)]
        papers = [EVEN_PAPER, ALL_FORMS, EXCHANGED, BY_TURNS, TO_ITSELF, Cases.NONE, Use.PAPER,
                  Fill.PAPER, Put.PAPER]
        rights = 0
        for seed in range(3000):
            rng = random.Random(seed)
            paper = rng.choice(papers)
            n = rng.randrange(len(paper))
            claim, step = paper[n]
            node = rng.choice([(self.changed(rng, claim, others), step),
                               (claim, self.changed(rng, step, others))])
            paper = (*paper[:n], node, *paper[n + 1:])
            for at in range(len(paper)):
                right = plainly.plainly_stands(BOOK, paper, at)
                rights += right and node != (claim, step)
                self.assertIs(stands(BOOK, paper, at), right)
        self.assertGreater(rights, 1000)


class ManyNames(unittest.TestCase):
    """Claims of 600 names: no claim that is due is gone through whole where it is too large."""

    def names(self, many):
        letters = "abcdefghijklmnopqrstuvwxyz"
        found = [one + other for one in letters for other in letters]
        return [name for name in found if name not in ("if", "to")][:many]

    def tree(self, terms):
        if len(terms) == 1:
            return terms[0]
        half = len(terms) // 2
        return ("p", self.tree(terms[:half]), self.tree(terms[half:]))

    def test_terms_that_double_over_and_over(self):
        names = self.names(129)
        one, other = self.tree(names[1:]), self.tree([("p", name, name) for name in names[:-1]])
        book = ((("p", 2),), (("eq", 2, 0, ((("x", "x"), ()), ((("p", "x", "y"), "z"), ()))),))
        claim = ((("eq", (one, other)),), (("eq", (names[0], names[-1])),))
        began = time.perf_counter()
        for goal in (claim, ((), (("eq", ("x", "y")),)), ((), (("eq", ("x", other)),))):
            paper = ((claim, ("cases", 0, (1, 2))), (goal, ("same", 0, 0)),
                     (claim, ("same", 0, 0)))
            self.assertIs(stands(book, paper, 0), False)
            self.assertEqual(paper_stands(book, paper), 0)
        self.assertLess(time.perf_counter() - began, SHORT)

    def test_six_hundred_names(self):
        names = self.names(600)
        left = tuple([le(one, other) for one, other in zip(names, names[1:])])
        first = (left, (nat("x"),))
        words = ["q" + name for name in names]
        one = dict(zip(names, words))
        one[names[5]] = one[names[6]]
        other = dict(zip(names, words))
        other[names[6]] = ("s", other[names[6]])
        sides = [plainly.atoms_with(left[:5] + left[6:], one),
                 plainly.atoms_with(left[:5], other)
                 + (le(words[5], words[6]),) + plainly.atoms_with(left[6:], other)]
        rights = [plainly.atoms_with(first[1], worth) for worth in (one, other)]
        nodes = [(first, ("cases", 5, (1, 2))), ((sides[0], rights[0]), ("same", 0, 0)),
                 ((sides[1], rights[1]), ("same", 0, 0))]
        began = time.perf_counter()
        paper = tuple([nodes[0]] * 38 + nodes[1:])
        paper = tuple([(claim, ("cases", 5, (38, 39)) if n < 38 else step)
                       for n, (claim, step) in enumerate(paper)])
        for n in range(40):
            self.assertIs(stands(BOOK, paper, n), n < 38)
        self.assertEqual(paper_stands(BOOK, paper), 38)
        self.assertLess(time.perf_counter() - began, SHORT)


if __name__ == "__main__":
    unittest.main()
