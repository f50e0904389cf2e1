"""Ties, ties laid on others, the ties of each step (point 13)."""

import itertools
import random
import unittest

import plainly
from leanround.ties import Ties, ties_of
from sample_papers import ALL_FORMS, BY_TURNS, EVEN_PAPER, even, nat, s
from samples import BOOK, ZERO

LISTED = ("list", ("z",))


def some_arcs(rng, places, many):
    return [(rng.randrange(places), rng.randrange(places), rng.random() < 0.4)
            for _ in range(rng.randrange(many + 1))]


class Arcs(unittest.TestCase):
    def told(self, arcs, kept):
        for given in (arcs, tuple(arcs), arcs[::-1], arcs + arcs):
            ties = Ties(given)
            for _ in range(2):
                self.assertEqual(ties.arcs(), kept)
                self.assertEqual(len(ties), len(kept))
            self.assertIs(ties.arcs().__class__, tuple)
            self.assertTrue(ties == Ties(arcs=kept))
            for here, there, falls in ties.arcs():
                self.assertIs(falls.__class__, bool)
                self.assertTrue(here.__class__ is there.__class__ is int)

    def test_none(self):
        self.told([], ())

    def test_any_order(self):
        rising = ((0, 1, False), (0, 2, True), (1, 0, True), (2, 0, False), (10, 2, False))
        for arcs in itertools.permutations(rising):
            self.told(list(arcs), rising)

    def test_numbers_and_not_texts_rise(self):
        self.told([(10, 0, False), (9, 20, True), (9, 3, True)],
                  ((9, 3, True), (9, 20, True), (10, 0, False)))

    def test_doubled(self):
        self.told([(0, 1, False), (0, 1, False)], ((0, 1, False),))
        self.told([(0, 1, True), (0, 1, True), (1, 1, False)], ((0, 1, True), (1, 1, False)))

    def test_falling_one_where_there_is_one(self):
        for arcs in ([(0, 1, False), (0, 1, True)], [(0, 1, True), (0, 1, False)],
                     [(0, 1, False), (0, 1, True), (0, 1, False)]):
            self.told(arcs, ((0, 1, True),))
        self.told([(0, 1, True), (1, 0, False)], ((0, 1, True), (1, 0, False)))

    def test_greatest(self):
        arcs = [(at % 21, (at * 8) % 21, at % 3 == 0) for at in range(40)]
        self.told(arcs, tuple(sorted(plainly.laid_on(arcs, [(at, at, False)
                                                            for at in range(21)]))))

    def test_list_emptied_behind(self):
        arcs = [(1, 0, True), (0, 1, False)]
        ties = Ties(arcs)
        arcs.clear()
        self.assertEqual(ties.arcs(), ((0, 1, False), (1, 0, True)))
        self.assertEqual((len(ties), str(ties)), (2, "0>1 1>0!"))

    def test_list_as_it_was(self):
        arcs = [(1, 0, True), (0, 1, False), (1, 0, False)]
        Ties(arcs).laid(Ties(arcs))
        self.assertEqual(arcs, [(1, 0, True), (0, 1, False), (1, 0, False)])


class Equal(unittest.TestCase):
    def test_same_arcs(self):
        one, other = Ties([(0, 1, False), (1, 0, True)]), Ties(((1, 0, True), (0, 1, False)))
        self.assertIs(one == other, True)
        self.assertIs(one != other, False)
        self.assertIs(Ties(()) == Ties([]), True)
        self.assertIs(one == one, True)

    def test_other_arcs(self):
        one = Ties([(0, 1, False)])
        for arcs in ([], [(0, 1, True)], [(1, 0, False)], [(0, 1, False), (0, 0, False)],
                     [(0, 0, False)]):
            self.assertIs(one == Ties(arcs), False)
            self.assertIs(Ties(arcs) == one, False)
            self.assertIs(one != Ties(arcs), True)

    def test_other_things(self):
        ties = Ties([(0, 1, False)])
        for other in (((0, 1, False),), [(0, 1, False)], "0>1", 1, None, True, 0, (), Ties):
            self.assertIs(ties == other, False)
            self.assertIs(other == ties, False)
            self.assertIs(ties != other, True)
        for other in ((), [], "none", 0, None, False, ""):
            self.assertIs(Ties(()) == other, False)


class Texts(unittest.TestCase):
    def test_texts(self):
        for arcs, text in (
                ([], "none"), ([(0, 1, False)], "0>1"), ([(0, 1, True)], "0>1!"),
                ([(2, 0, True), (0, 0, False), (0, 2, True)], "0>0 0>2! 2>0!"),
                ([(20, 19, False), (3, 11, True)], "3>11! 20>19")):
            for _ in range(2):
                self.assertEqual(str(Ties(arcs)), text)


class Laid(unittest.TestCase):
    def laid(self, one, other, told):
        ties, behind = Ties(one), Ties(other)
        for _ in range(2):
            self.assertEqual(ties.laid(behind).arcs(), told)
        self.assertEqual(ties.laid(other=behind).arcs(), told)
        self.assertIs(ties.laid(behind).__class__, Ties)
        self.assertEqual((ties, behind), (Ties(one), Ties(other)))

    def test_falls_by_either(self):
        for one, other in itertools.product((False, True), repeat=2):
            self.laid([(3, 4, one)], [(4, 5, other)], ((3, 5, one or other),))

    def test_in_this_order(self):
        self.laid([(0, 1, False)], [(1, 2, True)], ((0, 2, True),))
        self.laid([(1, 2, True)], [(0, 1, False)], ())

    def test_several_between(self):
        self.laid([(0, 1, False), (0, 2, False)], [(1, 3, False), (2, 3, True)], ((0, 3, True),))
        self.laid([(0, 1, True), (0, 2, False)], [(1, 3, False), (2, 3, False)], ((0, 3, True),))
        self.laid([(0, 1, False), (0, 2, False)], [(1, 3, False), (2, 4, True)],
                  ((0, 3, False), (0, 4, True)))

    def test_none(self):
        self.laid([], [(0, 0, True)], ())
        self.laid([(0, 0, True)], [], ())
        self.laid([(0, 1, True)], [(0, 1, True)], ())

    def test_by_chance(self):
        for seed in range(300):
            rng = random.Random(seed)
            one, other = some_arcs(rng, 5, 12), some_arcs(rng, 5, 12)
            self.laid(one, other, tuple(sorted(plainly.laid_on(one, other))))


class Itself(unittest.TestCase):
    def told(self, arcs, itself, falls_on):
        for _ in range(2):
            self.assertIs(Ties(arcs).itself(), itself)
            self.assertIs(Ties(arcs).falls_on(), falls_on)

    def test_none(self):
        self.told([], True, False)

    def test_staying(self):
        self.told([(0, 0, False)], True, False)
        self.told([(0, 0, True)], True, True)
        self.told([(0, 0, False), (1, 1, True)], True, True)

    def test_leading_on(self):
        self.told([(0, 1, True)], False, False)
        self.told([(0, 1, False), (1, 1, False)], True, False)
        self.told([(0, 1, False), (1, 1, True)], False, True)
        self.told([(0, 1, True), (1, 1, True)], True, True)

    def test_exchanged(self):
        self.told([(0, 1, False), (1, 0, False)], False, False)
        self.told([(0, 1, True), (1, 0, False)], False, False)

    def test_falling_to_another_place_alone(self):
        self.told([(0, 0, False), (0, 1, True), (1, 1, False)], True, False)

    def test_by_chance(self):
        rights = 0
        for seed in range(600):
            rng = random.Random(seed)
            arcs = some_arcs(rng, 3, 6)
            ties = plainly.laid_on(arcs, [(at, at, False) for at in range(3)])
            itself = plainly.laid_on(ties, ties) == ties
            rights += itself
            self.told(arcs, itself, any([a == b and falls for a, b, falls in ties]))
        self.assertGreater(rights, 60)


class TiesOf(unittest.TestCase):
    def told(self, node, texts, book=BOOK):
        for _ in range(2):
            told = ties_of(book, node)
            self.assertIs(told.__class__, list)
            self.assertEqual([ties if ties is None else str(ties) for ties in told], texts)
            self.assertTrue(all([ties is None or isinstance(ties, Ties) for ties in told]))
            told.clear()
        self.assertEqual(len(ties_of(book=book, node=node)), len(texts))

    def test_same(self):
        self.told((((nat("x"),), (nat("x"),)), ("same", 0, 0)), [])

    def test_cases_of_no_and_one_need(self):
        left = (nat("x"), even("y"), nat("z"))
        for at, texts in enumerate((
                ["1>0 2>1", "0>0! 1>1 2>2"], ["0>0 2>1", "0>0 1>1! 2>2"],
                ["0>0 1>1", "0>0 1>1 2>2!"])):
            self.told(((left, (nat("x"),)), ("cases", at, (1, 2))), texts)

    def test_cases_of_two_needs(self):
        for at, texts in enumerate((
                ["1>0 2>1", "0>0! 0>1! 1>2 2>3"], ["0>0 2>1", "0>0 1>1! 1>2! 2>3"],
                ["0>0 1>1", "0>0 1>1 2>2! 2>3!"])):
            left = [nat("x"), nat("y")]
            left.insert(at, LISTED)
            self.told(((tuple(left), (nat("x"),)), ("cases", at, (1, 2))), texts)

    def test_cases_of_one_alone(self):
        self.told((((nat("x"),), (nat("x"),)), ("cases", 0, (1, 2))), ["none", "0>0!"])
        self.told((((LISTED,), (nat("x"),)), ("cases", 0, (1, 2))), ["none", "0>0! 0>1!"])

    def test_cases_without_rules(self):
        book = (BOOK[0], (("no", 1, 0, ()),))
        self.told((((("no", ("x",)),), (("no", ("x",)),)), ("cases", 0, ())), [], book)

    def test_none_among_goals(self):
        claim = ((nat("y"), nat(s("x"))), (nat("x"),))
        self.told((claim, ("cases", 1, (None, 1))), [None, "0>0 1>1!"])
        claim = ((nat(ZERO), nat("x")), (nat("x"),))
        self.told((claim, ("cases", 0, (1, None))), ["1>0", None])
        claim = ((nat(("nil",)), nat("x")), (nat("x"),))
        self.told((claim, ("cases", 0, (None, None))), [None, None])

    def test_use(self):
        left = (nat("x"), nat("y"), nat("z"))
        self.told(((left, (nat(s("x")),)), ("use", 0, 1, (1,))), ["0>0 1>1 2>2"])
        listed = ("list", (("put", "x", "y"),))
        self.told(((left, (nat("x"), listed)), ("use", 1, 1, (1, 2))), ["0>0 1>1 2>2"] * 2)
        self.told(((left, (nat(ZERO),)), ("use", 0, 0, ())), [])
        self.told((((), (listed,)), ("use", 0, 1, (1, 2))), ["none", "none"])

    def test_fill(self):
        left = (nat("x"), nat("x"), nat("y"))
        for lefts, text in (((), "none"), ((1,), "1>0"), ((0, 1, 0), "0>0 0>2 1>1"),
                            ((1, 0), "0>1 1>0"), ((0, 0), "0>0 0>1")):
            self.told(((left, (nat("x"),)), ("fill", 1, (("a", "x"),), lefts, (0,))), [text])

    def test_put(self):
        claim = ((nat("x"), nat("y")), (nat("x"),))
        self.told((claim, ("put", even("x"), 1, 2)), ["0>0 1>1", "0>0 1>1"])
        self.told((((), (nat("x"),)), ("put", even("x"), 1, 2)), ["none", "none"])

    def test_goals_are_any_numbers(self):
        """Of a node that stands but for its goals' numbers the ties are the same."""
        for paper in (EVEN_PAPER, ALL_FORMS, BY_TURNS):
            for claim, step in paper:
                told = ties_of(BOOK, (claim, step))
                for goal in (-1, 0, 99, 10 ** 30):
                    if step[0] in ("cases", "use"):
                        other = (*step[:-1], tuple([goal] * len(step[-1])))
                    elif step[0] == "fill":
                        other = ("fill", goal, *step[2:])
                    else:
                        other = (*step[:2], *[goal] * len(step[2:])) if step[0] == "put" else step
                    self.assertEqual(ties_of(BOOK, (claim, other)), told)


if __name__ == "__main__":
    unittest.main()
