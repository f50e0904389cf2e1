"""Claims, their names, claims under pairs, claims alike (point 8)."""

import itertools
import random
import unittest

import plainly
import samples
from leanround.claims import alike, claim_under, names_of, same_claim
from samples import BOOK, ZERO, number

PLUS = ("plus", ("x", "y", "z"))


class NamesOf(unittest.TestCase):
    def test_left_ahead_of_right(self):
        claim = ((("le", ("z", ("s", "y"))), ("nat", ("x",))), (("le", ("a", "z")),))
        for _ in range(2):
            self.assertEqual(names_of(claim), ["z", "y", "x", "a"])
        self.assertEqual(names_of(claim=claim), ["z", "y", "x", "a"])

    def test_no_left(self):
        self.assertEqual(names_of(((), (PLUS,))), ["x", "y", "z"])
        self.assertEqual(names_of(((), (("nat", ("b",)), ("le", ("a", "b"))))), ["b", "a"])

    def test_none(self):
        self.assertEqual(names_of(((), (("nat", (ZERO,)),))), [])
        self.assertEqual(names_of(((("nat", (number(2),)),), (("even", (ZERO,)),))), [])

    def test_makers_and_sayings_are_none(self):
        claim = ((("x", (("y", "z"),)),), (("z", ("w",)),))
        self.assertEqual(names_of(claim), ["z", "w"])

    def test_told_list_is_the_askers_own(self):
        claim = ((), (PLUS,))
        names = names_of(claim)
        names.reverse()
        names.append("q")
        self.assertEqual(names_of(claim), ["x", "y", "z"])

    def test_six(self):
        claim = ((("plus", ("f", "e", "d")),), (("plus", ("c", ("put", "b", "a"), "f")),))
        self.assertEqual(names_of(claim), list("fedcba"))


class ClaimUnder(unittest.TestCase):
    def test_each_atom(self):
        claim = ((PLUS, ("nat", ("x",))), (("nat", (("s", "y"),)), ("nat", ("w",))))
        pairs = (("x", ZERO), ("y", ("s", "x")))
        told = (((("plus", (ZERO, ("s", "x"), "z"))), ("nat", (ZERO,))),
                (("nat", (("s", ("s", "x")),)), ("nat", ("w",))))
        self.assertEqual(claim_under(claim, pairs), told)
        self.assertEqual(claim_under(claim=claim, pairs=pairs), told)

    def test_no_left(self):
        self.assertEqual(claim_under(((), (("nat", ("x",)),)), (("x", "y"),)),
                         ((), (("nat", ("y",)),)))

    def test_names_that_change_places(self):
        claim = ((("le", ("x", "y")),), (("le", ("y", ("s", "x"))),))
        self.assertEqual(claim_under(claim, (("x", "y"), ("y", "x"))),
                         ((("le", ("y", "x")),), (("le", ("x", ("s", "y"))),)))

    def test_no_pairs(self):
        claim = ((PLUS,), (PLUS,))
        self.assertEqual(claim_under(claim, ()), claim)
        self.assertEqual(claim_under(claim, (("w", ZERO),)), claim)

    def test_names_of_sayings_and_makers_stay(self):
        claim = ((("x", (("x", "x"),)),), (("y", ("y",)),))
        self.assertEqual(claim_under(claim, (("x", "z"), ("y", ("x", "x")))),
                         ((("x", (("x", "z"),)),), (("y", (("x", "x"),)),)))

    def test_tuples_are_told(self):
        left, right = claim_under(((PLUS,), (PLUS,)), (("x", ZERO),))
        for side in (left, right):
            self.assertIs(side.__class__, tuple)
            self.assertIs(side[0].__class__, tuple)
            self.assertIs(side[0][1].__class__, tuple)


class Alike(unittest.TestCase):
    def told(self, one, other, right):
        for _ in range(2):
            self.assertIs(alike(one, other), right)
            self.assertIs(alike(other, one), right)
        self.assertIs(alike(one=one, other=other), right)

    def test_same(self):
        for claim in (((), (PLUS,)), ((PLUS,), (PLUS, ("nat", ("w",)))), ((), (("nat", (ZERO,)),))):
            self.told(claim, claim, True)

    def test_other_names(self):
        self.told(((PLUS,), (("nat", ("x",)),)),
                  ((("plus", ("a", "b", "c")),), (("nat", ("a",)),)), True)

    def test_names_that_change_places(self):
        self.told(((), (PLUS,)), ((), (("plus", ("y", "x", "z")),)), True)
        self.told(((PLUS,), (("le", ("x", "y")),)),
                  ((("plus", ("y", "z", "x")),), (("le", ("y", "z")),)), True)
        self.told(((PLUS,), (("le", ("x", "y")),)),
                  ((("plus", ("y", "x", "z")),), (("le", ("x", "y")),)), False)

    def test_two_names_made_one(self):
        self.told(((), (("le", ("x", "y")),)), ((), (("le", ("x", "x")),)), False)
        self.told(((("nat", ("x",)),), (("nat", ("y",)),)),
                  ((("nat", ("x",)),), (("nat", ("x",)),)), False)
        self.told(((("nat", ("x",)),), (("nat", ("y",)),)),
                  ((("nat", ("y",)),), (("nat", ("y",)),)), False)

    def test_names_and_terms(self):
        self.told(((), (("nat", ("x",)),)), ((), (("nat", (ZERO,)),)), False)
        self.told(((), (("nat", (("s", "x"),)),)), ((), (("nat", (("s", "y"),)),)), True)
        self.told(((), (("nat", (("s", "x"),)),)), ((), (("nat", ("y",)),)), False)
        self.told(((), (("nat", (("s", "x"),)),)), ((), (("nat", (("t", "x"),)),)), False)
        self.told(((), (("nat", (("x",),)),)), ((), (("nat", ("x",)),)), False)
        self.told(((), (("nat", (("p", "x", ("p", "y", "x")),)),)),
                  ((), (("nat", (("p", "y", ("p", "x", "y")),)),)), True)
        self.told(((), (("nat", (("p", "x", ("p", "y", "x")),)),)),
                  ((), (("nat", (("p", "x", ("p", "y", "y")),)),)), False)

    def test_sayings_in_another_order(self):
        one, other = ("nat", ("x",)), ("even", ("x",))
        self.told(((one, other), (one,)), ((other, one), (one,)), False)
        self.told(((one,), (one, other)), ((one,), (other, one)), False)

    def test_saying_on_the_other_side(self):
        one, other = ("nat", ("x",)), ("even", ("x",))
        self.told(((one,), (other,)), ((), (one, other)), False)
        self.told(((one, one), (one,)), ((one,), (one, one)), False)

    def test_more_and_fewer(self):
        one = ("nat", ("x",))
        self.told(((one,), (one,)), ((one, one), (one,)), False)
        self.told(((one,), (one,)), ((one,), (one, one)), False)

    def test_other_sayings(self):
        self.told(((), (("nat", ("x",)),)), ((), (("even", ("x",)),)), False)

    def test_names_over_both_sides(self):
        self.told(((("nat", ("x",)),), (("le", ("x", "y")),)),
                  ((("nat", ("x",)),), (("le", ("y", "x")),)), False)

    def test_claims_by_chance(self):
        many = 0
        for seed in range(300):
            rng = random.Random(seed)
            book = samples.any_book(rng) if seed % 2 else BOOK
            one = samples.any_claim(rng, book)
            names = names_of(one)
            put = rng.choice([names[::-1], [rng.choice("abcd") for _ in names], list("xyzuvw")])
            for other in (samples.any_claim(rng, book), claim_under(one, tuple(zip(names, put)))):
                right = plainly.plainly_alike(one, other)
                many += right
                self.told(one, other, right)
        self.assertGreater(many, 100)

    def test_small_claims(self):
        terms = ["x", "y", "z", ("s", "x"), ("s", "y")]
        claims = [((("f", (one,)),), (("g", (other, third)),))
                  for one, other, third in itertools.product(terms, repeat=3)]
        for one, other in itertools.product(claims[::3], claims):
            self.assertIs(alike(one, other), plainly.plainly_alike(one, other))


class SameClaim(unittest.TestCase):
    def test_small_claims(self):
        atoms = [("f", ("x",)), ("f", ("y",)), ("g", ("x",)), ("f", (("s", "x"),)),
                 ("f", ("x", "x")), ("f", (("x",),))]
        sides = [(), *[(atom,) for atom in atoms], (atoms[0], atoms[1]), (atoms[0], atoms[0])]
        claims = list(itertools.product(sides, sides))
        for one, other in itertools.product(claims, claims):
            self.assertIs(same_claim(one, other), one == other)


if __name__ == "__main__":
    unittest.main()
