"""Steps: their goals, and the claims due for these (points 11 and 12)."""

import random
import unittest

import plainly
import sample_papers
import samples
from leanround.books import look_book
from leanround.claims import alike, names_of
from leanround.steps import claims_due, goals_of
from leanround.terms import is_name
from sample_papers import even, nat, odd, s
from samples import BOOK, ZERO, number

NIL = ("nil",)


def le(one, other):
    return ("le", (one, other))


def plus(one, other, third):
    return ("plus", (one, other, third))


class GoalsOf(unittest.TestCase):
    def test_five_forms(self):
        for step, goals in (
                (("same", 3, 4), ()),
                (("cases", 0, (1, 2, 1)), (1, 2, 1)),
                (("use", 5, 6, (7, 8)), (7, 8)),
                (("fill", 9, (("x", "y"),), (1, 2), (3,)), (9,)),
                (("put", nat("x"), 2, 1), (2, 1))):
            for _ in range(2):
                self.assertEqual(goals_of(step), goals)
                self.assertIs(goals_of(step).__class__, tuple)
            self.assertEqual(goals_of(step=step), goals)

    def test_none_among_goals(self):
        self.assertEqual(goals_of(("cases", 0, (None, 4, None))), (None, 4, None))
        self.assertEqual(goals_of(("cases", 0, (None,))), (None,))

    def test_no_goals(self):
        self.assertEqual(goals_of(("cases", 0, ())), ())
        self.assertEqual(goals_of(("use", 0, 0, ())), ())

    def test_goals_are_any_numbers(self):
        self.assertEqual(goals_of(("use", 0, 0, (-1, 10 ** 30))), (-1, 10 ** 30))
        self.assertEqual(goals_of(("fill", -5, (), (), (0,))), (-5,))


class Due(unittest.TestCase):
    def due(self, claim, step, goal_claim=None, book=BOOK):
        """What is told, by places and by names, changed behind and asked again."""
        if step[0] == "fill":
            told = claims_due(book, claim, step, goal_claim)
        else:
            told = claims_due(book, claim, step)
        kept = list(told) if told is not None else None
        if told is not None:
            told.append(None)
            told.reverse()
        self.assertEqual(claims_due(book, claim, step, goal_claim), kept)
        again = claims_due(book=book, claim=claim, step=step, goal_claim=goal_claim)
        self.assertEqual(again, kept)
        return again

    def none(self, claim, step, goal_claim=None, book=BOOK):
        self.assertIsNone(self.due(claim, step, goal_claim, book))

    def alike_due(self, claim, step, dues, book=BOOK):
        """Checks what is due of cases, where any names may stand."""
        told = self.due(claim, step, None, book)
        self.assertEqual(len(told), len(dues))
        for one, other in zip(told, dues):
            if other is None:
                self.assertIsNone(one)
            else:
                self.assertTrue(alike(one, other), (one, other))
                self.assertTrue(all([is_name(name) for name in names_of(one)]))


class Same(Due):
    def test_same(self):
        claim = ((nat("x"), nat("y"), le("x", "y")), (nat("y"), le("x", "y")))
        self.assertEqual(self.due(claim, ("same", 1, 0)), [])
        self.assertEqual(self.due(claim, ("same", 2, 1)), [])

    def test_not_the_same(self):
        claim = ((nat("x"), nat("y"), le("y", "x")), (nat("y"), le("x", "y"), even("y")))
        for i in range(3):
            for j in range(3):
                if (i, j) != (1, 0):
                    self.none(claim, ("same", i, j))

    def test_not_there(self):
        claim = ((nat("x"),), (nat("x"),))
        for i, j in ((-1, 0), (0, -1), (1, 0), (0, 1), (10 ** 30, 0), (-1, -1)):
            self.none(claim, ("same", i, j))
        self.none(((), (nat("x"),)), ("same", 0, 0))


class Cases(Due):
    def test_name(self):
        claim = ((nat("x"),), (le("x", "x"),))
        dues = [((), (le(ZERO, ZERO),)), ((nat("y"),), (le(s("y"), s("y")),))]
        self.alike_due(claim, ("cases", 0, (1, 2)), dues)
        for goals in ((None, None), (-1, 10 ** 30), (0, 0), (None, 5)):
            self.alike_due(claim, ("cases", 0, goals), dues)

    def test_rule_that_cannot_be_fitted(self):
        right = (le("x", "x"),)
        self.alike_due(((nat(ZERO),), right), ("cases", 0, (1, None)), [((), right), None])
        self.alike_due(((nat(NIL),), right), ("cases", 0, (None, None)), [None, None])
        self.alike_due(((nat(s(s("x"))),), right), ("cases", 0, (None, 3)),
                       [None, ((nat(s("x")),), right)])
        # What has itself within is never fitted.
        self.alike_due(((plus("x", "x", "x"),), right), ("cases", 0, (1, 2)),
                       [((), (le(ZERO, ZERO),)), ((plus("y", s("y"), "y"),),
                                                  (le(s("y"), s("y")),))])
        book = ((("s", 1),), (("f", 2, 1, ((("x", s("x")), ()), (("x", "x"), ()))),))
        claim = ((("f", (s("a"), "a")),), (("f", ("a", "b")),))
        self.alike_due(claim, ("cases", 0, (None, None)), [None, None], book)

    def test_names_of_the_rule_stand_in_the_claim(self):
        claim = ((nat("y"), nat("x")), (le("x", "y"),))
        self.alike_due(claim, ("cases", 0, (1, 2)),
                       [((nat("x"),), (le("x", ZERO),)),
                        ((nat("w"), nat("x")), (le("x", s("w")),))])
        claim = ((plus("z", "x", "y"),), (plus("y", "z", "x"),))
        self.alike_due(claim, ("cases", 0, (1, 2)),
                       [((), (plus("a", ZERO, "a"),)),
                        ((plus("a", "x", "b"),), (plus(s("b"), s("a"), "x"),))])

    def test_new_names_that_stand_in_the_claim_too(self):
        names = "abcdef"
        for at, name in enumerate(names):
            left = tuple([nat(other) for other in names])
            claim = (left, (le("a", "f"),))
            new = [nat("new") if other == name else nat(other) for other in names]
            right = [s("new") if other == name else other for other in "af"]
            book = (BOOK[0], (("nat", 1, 0, (((s("a"),), (nat("a"),)),)), BOOK[1][4]))
            self.alike_due(claim, ("cases", at, (1,)), [(tuple(new), (le(*right),))], book)

    def test_new_names_that_stand_in_the_rule_too(self):
        for letter in "abcdefgh":
            head = ("put", "x", ("put", letter, "y"))
            book = (BOOK[0], (("f", 1, 0, (((head,), (("f", ("x",)), ("f", (letter,)))),)),))
            for names in (("x",), ("x", "y"), ("y", letter), ("q", "x")):
                claim = ((("f", (names[0],)),), tuple([("f", (name,)) for name in names]))
                due = (("f", ("k",)), ("f", ("l",)))
                right = [("f", (("put", "k", ("put", "l", "m")),)),
                         *[("f", ("n",)) for _ in names[1:]]]
                self.alike_due(claim, ("cases", 0, (1,)), [(due, tuple(right))], book)

    def test_no_word_becomes_a_name(self):
        """All short names stand in the claim, so that the new ones come close to `if` and `to`."""
        letters = "abcdefghijklmnopqrstuvwxyz"
        names = [one + other for one in ("", *letters[:20]) for other in letters
                 if one + other not in ("if", "to")]
        left = tuple([le(one, other) for one, other in zip(names, names[1:])])
        claim = ((*left, plus("x", "y", "z")), (le("x", "y"),))
        told = self.due(claim, ("cases", len(left), (1, 2)))
        for one in told:
            self.assertTrue(all([is_name(name) for name in names_of(one)]))
        zero = dict.fromkeys(names)
        zero.pop("x")
        self.assertEqual(len(names_of(told[0])), len(zero) - 1)
        self.assertEqual(len(names_of(told[1])), len(names))

    def test_place_of_the_atom(self):
        left = (nat("x"), even("y"), nat("z"))
        right = (plus("x", "y", "z"),)
        self.alike_due((left, right), ("cases", 0, (1, 2)),
                       [(left[1:], (plus(ZERO, "y", "z"),)),
                        ((nat("n"), even("y"), nat("z")), (plus(s("n"), "y", "z"),))])
        self.alike_due((left, right), ("cases", 1, (1, 2)),
                       [((nat("x"), nat("z")), (plus("x", ZERO, "z"),)),
                        ((nat("x"), odd("n"), nat("z")), (plus("x", s("n"), "z"),))])
        self.alike_due((left, right), ("cases", 2, (1, 2)),
                       [(left[:2], (plus("x", "y", ZERO),)),
                        ((nat("x"), even("y"), nat("n")), (plus("x", "y", s("n")),))])

    def test_two_needs(self):
        for at in range(3):
            left = [nat("x"), nat("y")]
            left.insert(at, ("list", ("z",)))
            due = [nat("x"), nat("y")]
            due[at:at] = [nat("v"), ("list", ("w",))]
            self.alike_due((tuple(left), (le("z", "x"),)), ("cases", at, (1, 2)),
                           [((nat("x"), nat("y")), (le(NIL, "x"),)),
                            (tuple(due), (le(("put", "v", "w"), "x"),))])

    def test_head_with_a_name_twice(self):
        claim = ((le("a", "b"), nat("a")), (le("b", "a"),))
        self.alike_due(claim, ("cases", 0, (1, 2)),
                       [((nat("a"),), (le("a", "a"),)),
                        ((le("a", "c"), nat("a")), (le(s("c"), "a"),))])

    def test_the_rest_is_put_too(self):
        """The claim's own names get terms by the rule, in all its atoms."""
        claim = ((plus("a", "b", "c"), even("c"), nat("b")), (odd("a"), le("c", "b")))
        self.alike_due(claim, ("cases", 0, (1, 2)),
                       [((even("b"), nat("b")), (odd(ZERO), le("b", "b"))),
                        ((plus("a", "b", "c"), even(s("c")), nat("b")),
                         (odd(s("a")), le(s("c"), "b")))])

    def test_saying_without_rules(self):
        book = (BOOK[0], (("no", 1, 0, ()), *BOOK[1]))
        claim = ((("no", ("x",)),), (nat("x"),))
        self.assertEqual(self.due(claim, ("cases", 0, ()), None, book), [])
        self.none(claim, ("cases", 0, (0,)), None, book)

    def test_goals_too_many_and_too_few(self):
        claim = ((nat("x"),), (nat("x"),))
        for goals in ((), (1,), (1, 2, 3), (None, None, None)):
            self.none(claim, ("cases", 0, goals))

    def test_not_there(self):
        claim = ((nat("x"),), (nat("x"),))
        for i in (-1, 1, 10 ** 30):
            self.none(claim, ("cases", i, (1, 2)))
        self.none(((), (nat("x"),)), ("cases", 0, (1, 2)))

    def test_by_chance(self):
        many = 0
        for seed in range(300):
            rng = random.Random(seed)
            book = samples.any_book(rng)
            claim = samples.any_claim(rng, book)
            for i in range(len(claim[0])):
                rules = plainly.rules_named(book, claim[0][i][0])
                dues = [plainly.plain_due_of_cases(claim, i, rule) for rule in rules]
                many += len([due for due in dues if due is not None])
                self.alike_due(claim, ("cases", i, (0,) * len(rules)), dues, book)
        self.assertGreater(many, 200)


class Use(Due):
    def test_heads_that_match(self):
        claim = ((even("x"),), (nat(s("x")), nat(ZERO)))
        self.assertEqual(self.due(claim, ("use", 0, 1, (1,))),
                         [((even("x"),), (nat("x"), nat(ZERO)))])
        self.assertEqual(self.due(claim, ("use", 1, 0, ())), [])

    def test_heads_that_do_not(self):
        self.none(((), (nat("x"),)), ("use", 0, 0, ()))
        self.none(((), (nat("x"),)), ("use", 0, 1, (1,)))
        self.none(((), (nat(ZERO),)), ("use", 0, 1, (1,)))
        self.none(((), (nat(number(1)),)), ("use", 0, 0, ()))
        self.none(((), (le("x", "y"),)), ("use", 0, 0, ()))
        self.assertEqual(self.due(((), (le("x", "x"),)), ("use", 0, 0, ())), [])

    def test_each_need_in_the_atoms_place(self):
        listed = ("list", (("put", "a", ("put", ZERO, "b")),))
        for at in range(3):
            right = [nat("a"), even("b")]
            right.insert(at, listed)
            dues = []
            for need in (nat("a"), ("list", (("put", ZERO, "b"),))):
                due = [nat("a"), even("b")]
                due.insert(at, need)
                dues.append(((odd("c"),), tuple(due)))
            claim = ((odd("c"),), tuple(right))
            for goals in ((1, 2), (0, 0), (-7, 10 ** 30)):
                self.assertEqual(self.due(claim, ("use", at, 1, goals)), dues)

    def test_names_of_the_rule_stand_in_the_claim(self):
        claim = ((nat("x"),), (plus(s("z"), "x", s("y")),))
        self.assertEqual(self.due(claim, ("use", 0, 1, (4,))),
                         [((nat("x"),), (plus("z", "x", "y"),))])

    def test_rule_that_is_not_there(self):
        for r in (-1, -2, 2, 10 ** 30):
            self.none(((), (nat(ZERO),)), ("use", 0, r, ()))
            self.none(((), (nat(s("x")),)), ("use", 0, r, (1,)))

    def test_atom_that_is_not_there(self):
        for i in (-1, 1, 10 ** 30):
            self.none(((nat(ZERO),) * 3, (nat(ZERO),)), ("use", i, 0, ()))

    def test_goals_too_many_and_too_few(self):
        for goals in ((), (1, 2), (1, 1, 1)):
            self.none(((), (nat(s("x")),)), ("use", 0, 1, goals))
        self.none(((), (nat(ZERO),)), ("use", 0, 0, (1,)))
        self.none(((), (("list", (("put", "a", "b"),)),)), ("use", 0, 1, (1,)))


class Fill(Due):
    CLAIM = ((nat("x"), le("x", "y"), nat(s("y"))), (plus("x", "y", "x"), nat("x")))
    GOAL = ((nat("a"), nat("b")), (nat("a"),))
    STEP = ("fill", 3, (("a", "x"), ("b", s("y"))), (0, 2), (1,))

    def test_right(self):
        self.assertEqual(self.due(self.CLAIM, self.STEP, self.GOAL), [self.GOAL])
        self.assertEqual(claims_due(BOOK, self.CLAIM, self.STEP, goal_claim=self.GOAL),
                         [self.GOAL])

    def test_atoms_twice_and_left_out(self):
        goal = ((nat("a"), nat("a"), nat("a")), (nat("a"), nat("a")))
        self.assertEqual(self.due(self.CLAIM, ("fill", 0, (("a", "x"),), (0, 0, 0), (1, 1)), goal),
                         [goal])

    def test_goal_without_left(self):
        goal = ((), (plus("b", "a", "b"),))
        step = ("fill", 0, (("b", "x"), ("a", "y")), (), (0,))
        self.assertEqual(self.due(self.CLAIM, step, goal), [goal])

    def test_goal_without_names(self):
        claim = ((nat(ZERO), nat("x")), (even(ZERO),))
        goal = ((nat(ZERO),), (even(ZERO),))
        self.assertEqual(self.due(claim, ("fill", 0, (), (0,), (0,)), goal), [goal])
        self.none(claim, ("fill", 0, (("x", "x"),), (0,), (0,)), goal)

    def test_goal_number_is_any(self):
        for goal in (-1, 0, 10 ** 30):
            step = ("fill", goal, *self.STEP[2:])
            self.assertEqual(self.due(self.CLAIM, step, self.GOAL), [self.GOAL])

    def with_parts(self, pairs=STEP[2], lefts=STEP[3], rights=STEP[4]):
        self.none(self.CLAIM, ("fill", 3, pairs, lefts, rights), self.GOAL)

    def test_lefts_and_rights(self):
        for lefts in ((), (0,), (0, 2, 0), (2, 0), (0, 1), (0, 0), (-3, 2), (0, -1), (0, 3),
                      (0, 10 ** 30)):
            self.with_parts(lefts=lefts)
        for rights in ((), (0,), (1, 1), (0, 1), (2,), (-1,), (10 ** 30,)):
            self.with_parts(rights=rights)

    def test_pairs(self):
        self.with_parts(pairs=(("b", s("y")), ("a", "x")))
        self.with_parts(pairs=(("a", "x"),))
        self.with_parts(pairs=(("a", "x"), ("b", s("y")), ("c", "x")))
        self.with_parts(pairs=(("a", "x"), ("c", s("y"))))
        self.with_parts(pairs=(("a", "x"), ("b", s("y")), ("b", s("y"))))
        self.with_parts(pairs=(("a", "x"), ("a", "x")))
        self.with_parts(pairs=())

    def test_pairs_in_the_order_of_the_goals_names(self):
        goal = ((nat("b"), nat("a")), (nat("b"),))
        step = ("fill", 3, (("b", "x"), ("a", s("y"))), (0, 2), (1,))
        self.assertEqual(self.due(self.CLAIM, step, goal), [goal])
        self.none(self.CLAIM, ("fill", 3, (("a", s("y")), ("b", "x")), (0, 2), (1,)), goal)

    def test_terms_of_names_that_the_claim_has_not(self):
        self.with_parts(pairs=(("a", "x"), ("b", s("b"))))
        self.with_parts(pairs=(("a", "a"), ("b", s("y"))))
        self.with_parts(pairs=(("a", "x"), ("b", s("w"))))
        self.with_parts(pairs=(("a", "x"), ("b", ("s",))))

    def test_all_at_once(self):
        claim = ((le("x", "y"),), (le("y", "x"),))
        turned = ((le("y", "x"),), (le("x", "y"),))
        step = ("fill", 0, (("y", "x"), ("x", "y")), (0,), (0,))
        self.assertEqual(self.due(claim, step, turned), [turned])

    def test_other_saying(self):
        self.none(((nat("x"),), (nat("x"),)), ("fill", 0, (("x", "x"),), (), (0,)),
                  ((), (even("x"),)))


class Put(Due):
    CLAIM = ((nat("x"),), (le("x", "y"), nat("y")))

    def test_behind_the_right_and_behind_the_left(self):
        left, right = self.CLAIM
        for atom in (even("x"), plus("y", s("x"), ZERO), nat(ZERO), nat("x")):
            for goals in ((1, 2), (0, 0), (-1, 10 ** 30)):
                self.assertEqual(self.due(self.CLAIM, ("put", atom, *goals)),
                                 [(left, right + (atom,)), (left + (atom,), right)])

    def test_no_left(self):
        claim = ((), (nat("x"),))
        self.assertEqual(self.due(claim, ("put", odd("x"), 1, 2)),
                         [((), (nat("x"), odd("x"))), ((odd("x"),), (nat("x"),))])

    def test_names_that_the_claim_has_not(self):
        for term in ("z", s("z"), ("put", "x", "w")):
            self.none(self.CLAIM, ("put", nat(term), 1, 2))
        self.none(((), (nat(ZERO),)), ("put", nat("x"), 1, 2))

    def test_atom_that_is_not_of_the_book(self):
        for atom in (("no", ("x",)), ("nat", ()), ("nat", ("x", "x")), ("le", ("x",)),
                     nat(("q",)), nat(("s",)), nat(("s", "x", "x")), nat(("zero", "x")),
                     nat(("s", ("s",))), ("s", ("x",)), ("", ("x",))):
            self.none(self.CLAIM, ("put", atom, 1, 2))


class OfPapers(Due):
    def test_nothing_changed(self):
        for paper in (sample_papers.EVEN_PAPER, sample_papers.ALL_FORMS):
            for claim, step in paper:
                goals = goals_of(step)
                goal_claim = paper[goals[0]][0] if step[0] == "fill" else None
                kept = repr((claim, step, goal_claim))
                for goal, due in zip(goals, self.due(claim, step, goal_claim)):
                    self.assertTrue(alike(paper[goal][0], due))
                self.assertEqual(repr((claim, step, goal_claim)), kept)

    def test_books_are(self):
        self.assertIs(look_book(BOOK), True)


if __name__ == "__main__":
    unittest.main()
