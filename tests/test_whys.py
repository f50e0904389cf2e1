"""Whether atoms hold, and why (point 7)."""

import itertools
import random
import unittest

import plainly
import samples
from leanround.books import look_book
from leanround.whys import holds, is_why, rules_in, why_deep, why_of
from samples import BOOK, ZERO, number, row

MAKERS = (("zero", 0), ("s", 1), ("p", 2))
LEAF = (0, ())


def book_of(*sayings):
    book = (MAKERS, sayings)
    look_book(book)
    return book


def built_of(told):
    """Whether a why is of tuples and whole numbers alone."""
    rule, whys = told
    return (told.__class__ is tuple and rule.__class__ is int and whys.__class__ is tuple
            and all([built_of(why) for why in whys]))


class Asked(unittest.TestCase):
    def told(self, book, atom, why):
        """Checks what is told of an atom, by places and by names, and again."""
        for _ in range(2):
            self.assertEqual(why_of(book, atom), why)
            self.assertIs(holds(book, atom), why is not None)
        self.assertEqual(why_of(book=book, atom=atom), why)
        self.assertIs(holds(book=book, atom=atom), why is not None)
        if why is not None:
            self.assertIs(is_why(book, why, atom), True)
            self.assertIs(is_why(book=book, why=why, atom=atom), True)
            self.assertTrue(built_of(why_of(book, atom)))


class Holds(Asked):
    def test_sayings_of_one(self):
        self.told(BOOK, ("nat", (ZERO,)), LEAF)
        self.told(BOOK, ("nat", (number(2),)), (1, ((1, (LEAF,)),)))
        self.told(BOOK, ("nat", (("nil",),)), None)
        self.told(BOOK, ("nat", (number(3, ("nil",)),)), None)

    def test_needs_look_at_another_saying(self):
        self.told(BOOK, ("even", (number(2),)), (1, ((0, (LEAF,)),)))
        self.told(BOOK, ("even", (number(3),)), None)
        self.told(BOOK, ("odd", (number(3),)), (0, ((1, ((0, (LEAF,)),)),)))
        self.told(BOOK, ("odd", (ZERO,)), None)

    def test_sayings_of_two(self):
        self.told(BOOK, ("le", (number(2), number(4))), (1, ((1, (LEAF,)),)))
        self.told(BOOK, ("le", (number(4), number(2))), None)
        self.told(BOOK, ("le", (("nil",), number(1, ("nil",)))), (1, (LEAF,)))

    def test_sayings_of_three(self):
        self.told(BOOK, ("plus", (number(2), number(1), number(3))), (1, ((1, (LEAF,)),)))
        self.told(BOOK, ("plus", (number(2), number(1), number(4))), None)
        self.told(BOOK, ("plus", (ZERO, ("nil",), ("nil",))), LEAF)

    def test_two_needs(self):
        self.told(BOOK, ("list", (row(),)), LEAF)
        self.told(BOOK, ("list", (row(number(1), ZERO),)), (1, ((1, (LEAF,)), (1, (LEAF, LEAF)))))
        self.told(BOOK, ("list", (row(ZERO, row()),)), None)
        self.told(BOOK, ("list", (("put", ZERO, ZERO),)), None)

    def test_by_in_each_place(self):
        for by in range(3):
            heads = ["x", "y", "z"]
            heads[by] = ("s", heads[by])
            last = ["x", "y", "z"]
            last[by] = ZERO
            saying = ("f", 3, by, ((tuple(last), ()),
                                   (tuple(heads), (("f", ("x", "y", "z")),))))
            book = book_of(saying)
            things = [number(2, ("p", ZERO, ZERO))] * 3
            things[by] = number(3)
            self.told(book, ("f", tuple(things)), (1, ((1, ((1, (LEAF,)),)),)))
            things = [number(3)] * 3
            things[by] = number(2, ("p", ZERO, ZERO))
            self.told(book, ("f", tuple(things)), None)

    def test_first_rule_that_has_one(self):
        book = book_of(("f", 1, 0, (((("s", "x"),), (("f", ("x",)),)), (("x",), ()),
                                    (("y",), ()))))
        self.told(book, ("f", (ZERO,)), (1, ()))
        self.told(book, ("f", (number(2),)), (0, ((0, ((1, ()),)),)))

    def test_rule_ahead_of_which_a_need_fails(self):
        book = book_of(
            ("f", 1, 0, (((("s", "x"),), (("f", ("x",)), ("no", ("x",)))),
                         ((("s", "x"),), (("no", ("x",)), ("f", ("x",)))),
                         (("x",), ()))),
            ("no", 1, 0, ()))
        self.told(book, ("f", (number(3),)), (2, ()))

    def test_whys_first_ones_too(self):
        book = book_of(("f", 1, 0, (((("p", "x", "y"),), (("g", ("y",)), ("g", ("x",)))),)),
                       ("g", 1, 0, ((((("s", "x")),), ()), (("x",), ()), ((ZERO,), ()))))
        self.told(book, ("f", (("p", ZERO, number(1)),)), (0, ((0, ()), (1, ()))))

    def test_head_with_a_name_twice(self):
        book = book_of(("f", 1, 0, (((("p", "x", "x"),), ()),)),
                       ("g", 2, 0, ((("x", ("s", "x")), ()),)))
        same = ("p", number(1), ZERO)
        self.told(book, ("f", (("p", same, same),)), LEAF)
        self.told(book, ("f", (("p", same, ("p", ZERO, number(1))),)), None)
        self.told(book, ("g", (same, ("s", same))), LEAF)
        self.told(book, ("g", (("s", same), same)), None)
        self.told(book, ("g", (same, same)), None)

    def test_maker_of_the_name_of_a_name(self):
        book = ((("x", 0), ("y", 1)), (("x", 1, 0, (((("y", "y"),), (("x", ("y",)),)),
                                                    ((("x",),), ()))),))
        self.told(book, ("x", (("y", ("y", ("x",))),)), (0, ((0, ((1, ()),)),)))

    def test_none_by_a_saying_without_rules(self):
        book = book_of(("f", 2, 1, ()))
        self.told(book, ("f", (ZERO, ZERO)), None)

    def test_needs_with_terms_that_grow(self):
        """The second and third thing grow from 3 makers to 971, and are the same or not."""
        more = ("p", ("p", "y", "y"), "y")
        other = ("p", "z", ("p", "z", "z"))
        last = ((ZERO, "y", "y"), ())
        for put, why in ((("p", ("p", "z", "z"), "z"), (1, ())), (other, None)):
            book = book_of(("f", 3, 0, (
                ((("s", "x"), "y", "z"), (("f", ("x", more, put)),)), last)))
            if why is not None:
                for _ in range(5):
                    why = (0, (why,))
            self.told(book, ("f", (number(5), number(2), number(2))), why)

    def test_needs_that_grow_in_depth(self):
        for behind, why in ((ZERO, (0, ((0, ((1, ()),)),))), (("nil",), None)):
            deep = number(8, number(8, number(2, behind)))
            book = ((*MAKERS, ("nil", 0)), (("f", 2, 0, (
                ((("s", "x"), "y"), (("f", ("x", number(8, "y"))),)),
                ((ZERO, deep), ()))),))
            self.told(book, ("f", (number(2), number(2))), why)

    def test_far_beyond_the_depth(self):
        self.assertIs(holds(BOOK, ("even", (number(3000),))), True)
        self.assertIs(holds(BOOK, ("even", (number(3001),))), False)
        self.assertIs(holds(BOOK, ("le", (number(2000), number(3000)))), True)
        why = why_of(BOOK, ("nat", (number(3000),)))
        self.assertEqual((rules_in(why), why_deep(why)), (3001, 3000))
        self.assertIs(is_why(BOOK, why, ("nat", (number(3000),))), True)
        self.assertIs(is_why(BOOK, why, ("nat", (number(3001),))), False)

    def test_many_ways_to_the_same_needs(self):
        """Without keeping what was looked at this would take very long."""
        book = book_of(("f", 1, 0, (
            ((("s", "x"),), (("f", ("x",)), ("no", ("x",)))),
            ((("s", "x"),), (("f", ("x",)), ("f", ("x",)))),
            ((ZERO,), ()))), ("no", 1, 0, ()))
        self.assertIs(holds(book, ("f", (number(40),))), True)

    def test_books_by_chance(self):
        many = 0
        for seed in range(150):
            rng = random.Random(seed)
            book = samples.any_book(rng)
            for _ in range(12):
                name, arity, _, _ = rng.choice(book[1])
                atom = (name, tuple([samples.any_thing(rng, book, 5) for _ in range(arity)]))
                why = plainly.plain_why(book, atom)
                many += why is not None
                self.told(book, atom, why)
        self.assertGreater(many, 200)

    def test_first_of_all_whys(self):
        for seed in range(60):
            rng = random.Random(seed)
            book = samples.any_book(rng)
            for name, arity, _, _ in book[1]:
                atom = (name, tuple([samples.any_thing(rng, book, 3) for _ in range(arity)]))
                whys = plainly.all_whys(book, atom)
                if len(whys) < 50:
                    self.assertEqual(why_of(book, atom), min(whys, default=None))
                    for why in whys:
                        self.assertIs(is_why(book, why, atom), True)


class IsWhy(unittest.TestCase):
    def is_none(self, why, atom, book=BOOK):
        self.assertIs(is_why(book, why, atom), False)

    def test_number_that_is_none(self):
        for rule in (-1, -2, 2, 10 ** 30, -10 ** 30):
            self.is_none((rule, ()), ("nat", (ZERO,)))
            self.is_none((1, ((rule, ()),)), ("nat", (number(1),)))
        self.is_none((0, ()), ("no", (ZERO,)), (MAKERS, (("no", 1, 0, ()),)))

    def test_rule_of_other_heads(self):
        self.is_none((1, (LEAF,)), ("nat", (ZERO,)))
        self.is_none((0, ()), ("nat", (number(1),)))
        self.is_none((1, (LEAF,)), ("le", (ZERO, ZERO)))

    def test_why_more_and_fewer(self):
        self.is_none((0, (LEAF,)), ("nat", (ZERO,)))
        self.is_none((1, ()), ("nat", (number(1),)))
        self.is_none((1, (LEAF, LEAF)), ("nat", (number(1),)))
        self.is_none((1, (LEAF,)), ("list", (row(ZERO),)))
        self.is_none((1, (LEAF, LEAF, LEAF)), ("list", (row(ZERO),)))

    def test_two_exchanged(self):
        atom = ("list", (row(number(1)),))
        one, other = (1, (LEAF,)), LEAF
        self.assertIs(is_why(BOOK, (1, (one, other)), atom), True)
        self.is_none((1, (other, one)), atom)

    def test_another_atoms(self):
        for many, other in itertools.product(range(6), repeat=2):
            why = why_of(BOOK, ("nat", (number(many),)))
            self.assertIs(is_why(BOOK, why, ("nat", (number(other),))), many == other)
        why = why_of(BOOK, ("even", (number(4),)))
        self.assertIs(is_why(BOOK, why, ("nat", (number(4),))), False)

    def test_not_the_first(self):
        book = (MAKERS, (("f", 1, 0, ((("x",), ()), (("y",), ()), (((("s", "x")),), ()))),))
        for rule, many in itertools.product(range(3), (0, 1)):
            self.assertIs(is_why(book, (rule, ()), ("f", (number(many),))), rule < 2 or many == 1)

    def test_small_whys(self):
        """All whys of at most two needs deep, against all atoms of small things."""
        whys = [(rule, ()) for rule in range(-1, 3)]
        for _ in range(2):
            whys = whys[:12] + [(rule, told) for rule in range(3) for many in (1, 2)
                                for told in itertools.product(whys[:6], repeat=many)]
        things = [ZERO, number(1), number(2), row(), row(ZERO), row(number(1), ZERO)]
        atoms = [(name, (thing,)) for name in ("nat", "even", "odd", "list") for thing in things]
        for atom in atoms:
            right = plainly.all_whys(BOOK, atom)
            for why in whys:
                self.assertIs(is_why(BOOK, why, atom), why in right)

    def test_books_by_chance(self):
        for seed in range(60):
            rng = random.Random(seed)
            book = samples.any_book(rng)
            atoms = []
            for _ in range(8):
                name, arity, _, _ = rng.choice(book[1])
                atoms.append((name, tuple([samples.any_thing(rng, book, 3)
                                           for _ in range(arity)])))
            whys = [plainly.all_whys(book, atom)[:20] for atom in atoms]
            for atom, right in zip(atoms, whys):
                for why in [why for some in whys for why in some]:
                    if len(right) < 20:
                        self.assertIs(is_why(book, why, atom), why in right)


class Measures(unittest.TestCase):
    def measured(self, why, many, depth):
        self.assertEqual(rules_in(why), many)
        self.assertEqual(why_deep(why), depth)
        self.assertEqual((rules_in(why=why), why_deep(why=why)), (many, depth))

    def test_without_needs(self):
        self.measured((0, ()), 1, 0)
        self.measured((3, ()), 1, 0)

    def test_deeper(self):
        self.measured((1, (LEAF,)), 2, 1)
        self.measured((1, (LEAF, LEAF)), 3, 1)
        self.measured((1, (LEAF, (1, (LEAF,)))), 4, 2)
        self.measured((1, ((1, (LEAF,)), LEAF)), 4, 2)
        self.measured((1, ((1, (LEAF, LEAF)), (0, ((2, ((5, ()),)),)))), 7, 3)

    def test_sixty_deep(self):
        why = LEAF
        for at in range(60):
            why = (at, (why,))
        self.measured(why, 61, 60)

    def test_four_hundred_rules(self):
        why = LEAF
        for _ in range(59):
            why = (1, (why,) + ((0, (LEAF,)),) * 2 + (LEAF,))
        self.measured((1, (why, LEAF)), 3 + 59 * 6, 61)
        self.measured(why, 1 + 59 * 6, 60)
        self.measured((0, (LEAF,) * 399), 400, 1)

    def test_one_part_many_times(self):
        why = LEAF
        for depth in range(1, 9):
            why = (0, (why, why))
            self.measured(why, 2 ** (depth + 1) - 1, depth)

    def test_of_whys_told(self):
        for many in range(7):
            self.measured(why_of(BOOK, ("nat", (number(many),))), many + 1, many)


if __name__ == "__main__":
    unittest.main()
