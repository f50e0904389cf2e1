"""The order of things, and things that speak against a claim (points 9 and 10)."""

import itertools
import random
import time
import unittest

import plainly
import samples
from leanround.against import against, in_order, speaks_against
from leanround.books import look_book
from samples import BOOK, ZERO, number, row

NIL = ("nil",)
SHORT = 8


class InOrder(unittest.TestCase):
    def ahead(self, one, other, book=BOOK):
        for _ in range(2):
            self.assertIs(in_order(book, one, other), True)
            self.assertIs(in_order(book, other, one), False)
        self.assertIs(in_order(book=book, one=one, other=other), True)

    def test_sizes_unlike(self):
        self.ahead(ZERO, number(1))
        self.ahead(NIL, number(1))
        self.ahead(number(1, NIL), ("put", ZERO, ZERO))
        self.ahead(("put", NIL, NIL), number(3))

    def test_makers_by_their_place(self):
        book = ((("q", 0), ("b", 0), ("z", 1), ("a", 1)), ())
        self.ahead(("q",), ("b",), book)
        self.ahead(("z", ("b",)), ("a", ("q",)), book)
        self.ahead(ZERO, NIL)
        self.ahead(number(2, NIL), ("put", ZERO, ZERO))

    def test_what_is_within(self):
        self.ahead(number(1), number(1, NIL))
        self.ahead(("put", ZERO, NIL), ("put", NIL, ZERO))
        self.ahead(("put", ZERO, ZERO), ("put", ZERO, NIL))
        self.ahead(("put", ZERO, number(1, NIL)), ("put", NIL, number(1)))

    def test_first_within_by_its_size(self):
        self.ahead(("put", NIL, number(2, NIL)), ("put", number(1), number(1)))
        self.ahead(("put", number(1, NIL), number(1, NIL)), ("put", number(2), ZERO))

    def test_itself(self):
        for thing in (ZERO, NIL, number(4), row(ZERO, number(1))):
            self.assertIs(in_order(BOOK, thing, thing), False)

    def test_all_small_things(self):
        book = ((("c", 0), ("a", 2), ("d", 0), ("b", 1)), ())
        things = plainly.all_things(book, 5)
        self.assertEqual(len(things), 66)
        for at, other in itertools.product(range(len(things)), repeat=2):
            self.assertIs(in_order(book, things[at], things[other]), at < other)

    def test_far_beyond_the_depth(self):
        self.ahead(number(2000), number(2000, NIL))


class SpeaksAgainst(unittest.TestCase):
    def told(self, claim, things, right, book=BOOK):
        for _ in range(2):
            self.assertIs(speaks_against(book, claim, things), right)
        self.assertIs(speaks_against(book=book, claim=claim, things=things), right)

    def test_left_and_right(self):
        claim = ((("nat", ("x",)),), (("even", ("x",)),))
        self.told(claim, {"x": number(3)}, True)
        self.told(claim, {"x": number(2)}, False)
        self.told(claim, {"x": NIL}, False)

    def test_several(self):
        claim = ((("nat", ("x",)), ("nat", ("y",))), (("even", ("x",)), ("odd", ("y",))))
        for x, y in itertools.product(range(4), repeat=2):
            things = {"x": number(x), "y": number(y)}
            self.told(claim, things, x % 2 == 1 and y % 2 == 0)
        self.told(claim, {"x": number(1), "y": NIL}, False)
        self.told(claim, {"x": NIL, "y": ZERO}, False)

    def test_names_in_another_order(self):
        claim = ((("nat", ("x",)),), (("le", ("y", "x")),))
        self.told(claim, {"x": ZERO, "y": number(1)}, True)
        self.told(claim, {"y": number(1), "x": ZERO}, True)
        self.told(claim, {"y": ZERO, "x": number(1)}, False)

    def test_dict_as_it_was(self):
        things = {"y": number(1), "x": ZERO}
        self.assertIs(speaks_against(BOOK, ((), (("le", ("y", "x")),)), things), True)
        self.assertEqual(list(things.items()), [("y", number(1)), ("x", ZERO)])

    def test_no_names(self):
        self.told(((), (("odd", (ZERO,)),)), {}, True)
        self.told(((), (("odd", (ZERO,)), ("even", (ZERO,)))), {}, False)
        self.told(((("odd", (ZERO,)),), (("odd", (ZERO,)),)), {}, False)

    def test_no_left(self):
        self.told(((), (("nat", ("x",)),)), {"x": NIL}, True)
        self.told(((), (("nat", ("x",)),)), {"x": ZERO}, False)


class Against(unittest.TestCase):
    def told(self, claim, most, things, book=BOOK):
        for _ in range(2):
            self.assertEqual(against(book, claim, most), things)
        self.assertEqual(against(book=book, claim=claim, most=most), things)

    def test_least(self):
        self.told(((), (("nat", ("x",)),)), 4, {"x": NIL})
        self.told(((("nat", ("x",)),), (("even", ("x",)),)), 4, {"x": number(1)})
        self.told(((("odd", ("x",)),), (("le", ("x", number(1))),)), 4, {"x": number(3)})

    def test_most_just_the_sum_and_one_less(self):
        for many in range(1, 5):
            claim = ((("nat", ("x",)),), tuple([("le", ("x", number(many - 1)))]))
            for most in range(7):
                told = {"x": number(many)} if most >= many + 1 else None
                self.told(claim, most, told)

    def test_most_left_out(self):
        for many, told in ((2, {"x": number(3)}), (3, None)):
            claim = ((("nat", ("x",)),), (("le", ("x", number(many))),))
            self.assertEqual(against(BOOK, claim), told)
            self.assertEqual(against(BOOK, claim, 4), told)
            self.assertEqual(against(claim=claim, book=BOOK), told)

    def test_most_of_a_sum_over_names(self):
        claim = ((("nat", ("x",)), ("nat", ("y",))), (("le", ("x", "y")),))
        for most in range(7):
            self.told(claim, most, {"x": number(1), "y": ZERO} if most >= 3 else None)

    def test_no_names(self):
        for most in range(7):
            self.told(((), (("odd", (ZERO,)),)), most, {})
            self.told(((), (("even", (ZERO,)),)), most, None)
            self.told(((("odd", (ZERO,)),), (("odd", (ZERO,)),)), most, None)

    def test_names_with_nothing_to_hold(self):
        self.told(((), (("odd", ("x",)), ("odd", ("y",)))), 4, {"x": ZERO, "y": ZERO})

    def test_six_names(self):
        claim = ((("plus", ("a", "b", "c")), ("plus", ("d", "e", "f"))), (("le", ("a", "d")),))
        self.told(claim, 5, None)
        self.told(claim, 6, None)
        claim = ((), (("plus", ("a", "b", "c")), ("plus", ("d", "e", "f")),
                      ("le", ("c", "d")), ("le", ("f", "e"))))
        told = {"a": ZERO, "b": ZERO, "c": NIL, "d": ZERO, "e": ZERO, "f": NIL}
        self.told(claim, 5, None)
        self.told(claim, 6, told)

    def test_book_without_a_maker_that_takes_nothing(self):
        saying = ("f", 1, 0, ())
        for makers in ((), (("s", 1),), (("s", 1), ("p", 2))):
            book = (makers, (saying,))
            for most in range(7):
                self.told(((), (("f", ("x",)),)), most, None, book)

    def test_first_by_the_order_of_names(self):
        claim = ((), (("odd", ("y",)), ("odd", ("x",)), ("le", ("y", "x"))))
        self.told(claim, 6, {"y": ZERO, "x": NIL})
        claim = ((("nat", ("x",)), ("nat", ("y",))), (("le", ("x", "y")), ("even", ("y",))))
        self.told(claim, 6, {"x": number(2), "y": number(1)})
        claim = ((("nat", ("y",)), ("nat", ("x",))), (("even", ("x",)), ("le", (number(2), "y")),
                                                      ("le", ("x", "y"))))
        self.told(claim, 6, {"y": ZERO, "x": number(1)})

    def test_first_by_the_first_names_thing(self):
        """The sum is the same: the lesser thing of the first name comes ahead."""
        claim = ((("nat", ("x",)), ("nat", ("y",))), (("plus", ("x", "y", "y")),
                                                      ("plus", ("y", "x", "x"))))
        self.told(claim, 6, {"x": number(1), "y": number(1)})
        claim = ((("nat", ("x",)), ("nat", ("y",))), (("eq", ("x", "y")),))
        book = (BOOK[0], (*BOOK[1], ("eq", 2, 0, ((("w", "w"), ()),))))
        self.told(claim, 6, {"x": ZERO, "y": number(1)}, book)

    def test_first_by_the_order_of_makers(self):
        for makers in itertools.permutations((("a", 0), ("b", 0), ("c", 0))):
            front = makers[0][0]
            book = (makers, (("f", 2, 0, (((("a",), ("a",)), ()),)),))
            others = [maker for maker, _ in makers if (front, maker) != ("a", "a")]
            self.told(((), (("f", ("x", "y")),)), 4, {"x": (front,), "y": (others[0],)}, book)

    def test_makers_that_take_two(self):
        rules = (((("c",),), ()), ((("d",),), ()))
        book = ((("p", 2), ("c", 0), ("d", 0)), (("f", 1, 0, rules),))
        self.told(((), (("f", ("x",)),)), 4, {"x": ("p", ("c",), ("c",))}, book)
        self.told(((), (("f", ("x",)),)), 2, None, book)

    def test_told_dict_is_the_askers_own(self):
        claim = ((("nat", ("x",)),), (("even", ("x",)),))
        told = against(BOOK, claim)
        told.clear()
        self.assertEqual(against(BOOK, claim), {"x": number(1)})

    def test_by_chance(self):
        found = 0
        for seed in range(350):
            rng = random.Random(seed)
            book = samples.any_book(rng)
            claim = samples.any_claim(rng, book)
            most = rng.randrange(5)
            told = plainly.plainly_against(book, claim, most)
            found += told is not None
            self.told(claim, most, told, book)
            if told is not None:
                self.assertIs(speaks_against(book, claim, told), True)
        self.assertGreater(found, 50)


class InShortTime(unittest.TestCase):
    def none_soon(self, book, claim):
        look_book(book)
        began = time.perf_counter()
        self.assertIsNone(against(book, claim, 6))
        self.assertLess(time.perf_counter() - began, SHORT)

    def test_six_names_and_six_makers_that_take_nothing(self):
        makers = tuple([("c" + sign, 0) for sign in "abcdef"])
        book = (makers, (("any", 3, 0, ((("x", "y", "z"), ()),)),
                         ("same", 2, 0, ((("x", "x"), ()),)), ("no", 1, 0, ())))
        left = tuple([("any", told) for told in ("abc", "bcd", "cde", "def", "fab")])
        right = (("no", ("f",)), ("no", ("e",)), ("same", (("ca",), ("cb",))),
                 ("any", ("e", "f", "a")))
        self.none_soon(book, (left, right))

    def test_six_names_in_one_term(self):
        makers = (*[("c" + sign, 0) for sign in "abcd"], ("s", 1), ("p", 2))
        book = (makers, (("list", 1, 0, (((("p", "x", "y"),), (("list", ("y",)),)),
                                         (("x",), ()))),))
        term = "a"
        for name in "bcdef":
            term = ("p", name, term)
        self.none_soon(book, ((("list", (term,)),), (("list", (("p", term, "f"),)),)))

    def test_six_names_of_numbers(self):
        book = samples.BOOK
        claim = ((("plus", ("a", "b", "c")), ("plus", ("c", "d", "e")), ("nat", ("a",)),
                  ("nat", ("c",)), ("le", ("e", "f"))), (("le", ("a", "c")), ("le", ("b", "f"))))
        self.none_soon(book, claim)

    def test_three_names(self):
        for many in range(1, 6):
            for two in range(6 - many):
                makers = [("c" + "abcde"[at], 0) for at in range(many)]
                makers += [("t" + "abcde"[at], 2) for at in range(two)]
                makers += [("o" + "abcde"[at], 1) for at in range(6 - many - two)]
                rules = (((("oa", "x"), "y", "z"), (("f", ("x", "z", ("oa", "y"))),)),
                         (("x", "y", "z"), ()))
                book = (tuple(makers), (("f", 3, 0, rules), ("no", 1, 0, ())))
                self.none_soon(book, ((), (("no", ("x",)), ("f", ("x", "y", "z")))))


if __name__ == "__main__":
    unittest.main()
