"""Rows matched and rows fitted (point 5)."""

import itertools
import unittest

from leanround.fitting import fitted, matched
from leanround.terms import names_in, parts, same, size, under

ZERO = ("zero",)
ONE = ("s", ZERO)


def row_under(terms, pairs):
    return tuple([under(term, pairs) for term in terms])


def tower(many, top):
    for _ in range(many):
        top = ("s", top)
    return top


def plainly_fitted(terms, others):
    """Fitted the slow and plain way: one name after the other is put in everywhere."""
    waiting = list(zip(terms, others))
    pairs = ()
    while waiting:
        one, other = waiting.pop(0)
        if one == other:
            continue
        if isinstance(other, str) and not isinstance(one, str):
            one, other = other, one
        if isinstance(one, str):
            if one in parts(other):
                return None
            step = ((one, other),)
            waiting = [(under(a, step), under(b, step)) for a, b in waiting]
            pairs = tuple([(name, under(term, step)) for name, term in pairs]) + step
        elif (one[0], len(one)) != (other[0], len(other)):
            return None
        else:
            waiting.extend(zip(one[1:], other[1:]))
    return pairs


class Matched(unittest.TestCase):
    def test_rows_of_none(self):
        self.assertEqual(matched((), ()), ())

    def test_unlike_lengths(self):
        self.assertIsNone(matched((), ("x",)))
        self.assertIsNone(matched(("x",), ()))
        self.assertIsNone(matched(("x", "y"), ("x",)))
        self.assertIsNone(matched(("x",), (ZERO, ONE)))

    def test_names(self):
        self.assertEqual(matched(("x",), (ONE,)), (("x", ONE),))
        self.assertEqual(matched(("x",), ("x",)), (("x", "x"),))
        self.assertEqual(matched(("x",), ("y",)), (("x", "y"),))
        self.assertEqual(matched(("x", "y"), ("z", "z")), (("x", "z"), ("y", "z")))

    def test_no_names(self):
        self.assertEqual(matched((ZERO, ONE), (ZERO, ONE)), ())
        self.assertIsNone(matched((ZERO,), (ONE,)))

    def test_a_name_twice(self):
        self.assertEqual(matched(("x", "x"), (ONE, ONE)), (("x", ONE),))
        self.assertEqual(matched((("p", "x", "x"),), (("p", "y", "y"),)), (("x", "y"),))
        self.assertIsNone(matched(("x", "x"), (ZERO, ONE)))
        self.assertIsNone(matched((("p", "x", "x"),), (("p", "x", "y"),)))
        self.assertIsNone(matched(("x", ("s", "x")), (ONE, ONE)))
        self.assertEqual(matched(("x", ("s", "x")), (ZERO, ONE)), (("x", ZERO),))

    def test_other_makers(self):
        self.assertIsNone(matched((("s", "x"),), (ZERO,)))
        self.assertIsNone(matched((("s", "x"),), (("t", "x"),)))
        self.assertIsNone(matched((("s", "x"),), (("p", "x", "y"),)))
        self.assertIsNone(matched((("s", ("s", "x")),), (ONE,)))

    def test_a_term_with_a_name(self):
        self.assertIsNone(matched((ZERO,), ("x",)))
        self.assertIsNone(matched((("s", "x"),), ("x",)))
        self.assertIsNone(matched((("x",),), ("x",)))
        self.assertEqual(matched(("x",), (("x",),)), (("x", ("x",)),))

    def test_names_in_both_rows(self):
        self.assertEqual(matched(("x", "y"), ("y", "x")), (("x", "y"), ("y", "x")))
        self.assertEqual(matched(("x",), (("s", "x"),)), (("x", ("s", "x")),))
        self.assertEqual(matched((("p", "x", "y"),), (("p", ("s", "y"), "x"),)),
                         (("x", ("s", "y")), ("y", "x")))
        self.assertIsNone(matched(("x", "x"), ("x", "y")))

    def test_order_of_the_pairs(self):
        terms = (("p", ("p", "c", "b"), "a"), "d", ("s", "b"))
        others = (("p", ("p", ZERO, ONE), "a"), "b", ("s", ONE))
        self.assertEqual(matched(terms, others),
                         (("c", ZERO), ("b", ONE), ("a", "a"), ("d", "b")))

    def test_by_names(self):
        self.assertEqual(matched(terms=("x",), others=(ZERO,)), (("x", ZERO),))

    def test_all_small_rows(self):
        terms = ["x", "y", ZERO, ("s", "x"), ("s", "y"), ("p", "x", "y"), ("p", "y", "y")]
        worths = ["x", "y", "z", ZERO, ONE, ("s", "x"), ("s", "y"), ("p", "x", "y")]
        for row in itertools.product(terms, repeat=2):
            names = names_in(row)
            become = {}
            for put in itertools.product(worths, repeat=len(names)):
                pairs = tuple(zip(names, put))
                become[row_under(row, pairs)] = pairs
            for other in itertools.product(worths, repeat=2):
                self.assertEqual(matched(row, other), become.get(other))

    def test_told_pairs_make_the_row_the_other(self):
        row = (("p", "x", ("s", "y")), "z", ("p", "y", "x"))
        pairs = (("x", tower(6, "y")), ("y", ("p", "z", "z")), ("z", tower(8, ZERO)))
        self.assertEqual(matched(row, row_under(row, pairs)), pairs)

    def test_far_beyond_the_depth(self):
        high = tower(4000, ZERO)
        pairs = matched(("x", "x"), (high, tower(4000, ZERO)))
        self.assertTrue(same(pairs[0][1], high))
        self.assertIsNone(matched(("x", "x"), (high, tower(3999, ZERO))))
        self.assertEqual(matched((tower(4000, "x"),), (high,)), (("x", ZERO),))


class Fitted(unittest.TestCase):
    def check_pairs(self, terms, others, pairs):
        """What is promised of pairs by themselves: that they fit, and of their names."""
        self.assertIsInstance(pairs, tuple)
        self.assertEqual(row_under(terms, pairs), row_under(others, pairs))
        names = [name for name, _ in pairs]
        self.assertEqual(len(names), len(set(names)))
        within = names_in([term for _, term in pairs])
        self.assertFalse(set(names) & set(within))
        self.assertLessEqual({*names, *within}, set(names_in(terms + others)))

    def check(self, terms, others):
        """That the pairs fit, and are as general as those of the plain way."""
        pairs = fitted(terms, others)
        plain = plainly_fitted(terms, others)
        if plain is None:
            self.assertIsNone(pairs, (terms, others))
            return
        self.assertIsNotNone(pairs, (terms, others))
        self.check_pairs(terms, others, pairs)
        one, other = row_under(terms, pairs), row_under(terms, plain)
        self.assertIsNotNone(matched(one, other))
        self.assertIsNotNone(matched(other, one))

    def test_rows_of_none(self):
        self.assertEqual(fitted((), ()), ())

    def test_unlike_lengths(self):
        self.assertIsNone(fitted((), ("x",)))
        self.assertIsNone(fitted(("x",), ()))
        self.assertIsNone(fitted(("x", "y"), ("x",)))
        self.assertIsNone(fitted((ZERO,), (ZERO, ZERO)))

    def test_one_already(self):
        for row in (("x",), ("x", "y"), (ZERO,), (("p", "x", ("s", "y")), "x")):
            self.assertEqual(fitted(row, row), ())

    def test_a_name_with_a_term(self):
        self.assertEqual(fitted(("x",), (ONE,)), (("x", ONE),))
        self.assertEqual(fitted((ONE,), ("x",)), (("x", ONE),))
        self.assertEqual(fitted(("x",), (("s", "y"),)), (("x", ("s", "y")),))
        self.assertEqual(fitted((("x",),), ("x",)), (("x", ("x",)),))

    def test_a_name_with_a_name(self):
        self.assertIn(fitted(("x",), ("y",)), ((("x", "y"),), (("y", "x"),)))
        self.check(("x", "y", "z"), ("y", "z", "x"))
        self.check(("x", "x", "x"), ("y", "z", "u"))

    def test_a_name_within_its_own_term(self):
        self.assertIsNone(fitted(("x",), (("s", "x"),)))
        self.assertIsNone(fitted((("p", "y", "x"),), ("x",)))
        self.assertIsNone(fitted(("x", "y"), (("s", "y"), ("s", "x"))))
        self.assertIsNone(fitted(("x", "y"), ("y", ("s", "x"))))
        self.assertIsNone(fitted((("p", "x", "y"),), (("p", "y", ("s", "x")),)))
        self.assertIsNone(fitted(("x", "x"), (("p", "y", ZERO), ("p", ("s", "y"), "z"))))
        self.assertIsNone(fitted(("x",), (tower(8, "x"),)))

    def test_other_makers(self):
        self.assertIsNone(fitted((ZERO,), (ONE,)))
        self.assertIsNone(fitted((("s", "x"),), (("t", "x"),)))
        self.assertIsNone(fitted((("s", "x"),), (("p", "x", "y"),)))
        self.assertIsNone(fitted(("x", "x"), (ZERO, ("s", "y"))))
        self.assertIsNone(fitted(("x", "y", "x"), ("y", ZERO, ONE)))

    def test_through_several_terms(self):
        self.assertEqual(fitted(("x", "y", "z"), (("p", "y", "y"), ("s", "z"), ONE)),
                         (("x", ("p", ("s", ONE), ("s", ONE))), ("y", ("s", ONE)), ("z", ONE)))
        self.check((("p", "x", ("p", "y", "z")),), (("p", ("s", "y"), ("p", ("s", "z"), "u")),))
        self.check(("x", "y", "x", "y"), (("p", "a", "b"), ("p", "b", "c"), "y", ("p", "u", "u")))
        self.check((("p", "x", "y"), ("p", "y", "z")), ("u", ("p", ("s", "u"), "x")))

    def test_names_of_both_sides_twice_as_large_each_time(self):
        names = "abcdefgh"
        terms = tuple(names[:-1])
        others = tuple([("p", name, name) for name in names[1:]])
        pairs = fitted(terms, others)
        self.check_pairs(terms, others, pairs)
        self.assertEqual(size(under(dict(pairs)["a"], (("h", ZERO),))), 255)

    def test_what_would_be_large_is_fitted_soon(self):
        names = [chr(97 + n // 26) + chr(97 + n % 26) for n in range(60)]
        terms = tuple(names[:-1])
        others = tuple([("p", name, name) for name in names[1:]])
        self.assertEqual([name for name, _ in fitted(terms, others)], names[:-1])
        self.assertIsNone(fitted(terms + (names[-1],), others + (("s", "aa"),)))
        seconds = ["z" + name for name in names]
        more = tuple(seconds[:-1])
        doubled = tuple([("p", name, name) for name in seconds[1:]])
        both = fitted(terms + more + ("aa",), others + doubled + ("zaa",))
        self.assertEqual(len(both), 119)
        self.assertIsNone(fitted(terms + more + (("p", "aa", "x"), "x"),
                                 others + doubled + (("p", "x", "zaa"), ("s", "zaa"))))

    def test_by_names(self):
        self.assertEqual(fitted(terms=("x",), others=(ZERO,)), (("x", ZERO),))

    def test_asked_again(self):
        terms, others = (("p", "x", "y"), "z"), ("z", ("p", "u", ("s", "v")))
        told = fitted(terms, others)
        self.assertEqual(fitted(terms, others), told)
        self.assertEqual((terms, others), ((("p", "x", "y"), "z"), ("z", ("p", "u", ("s", "v")))))

    def test_all_small_terms(self):
        low = ["x", "y", "z", ZERO]
        terms = [*low, *[("s", term) for term in low],
                 *[("p", one, other) for one in low for other in low]]
        for one, other in itertools.product(terms, repeat=2):
            self.check((one,), (other,))
            self.check((one, "x"), (other, ("s", "y")))
            self.check((one, "y", "x"), (other, "x", "z"))

    def test_all_small_rows(self):
        terms = ["x", "y", "z", ZERO, ("s", "x"), ("s", "z"), ("p", "x", "y"), ("p", "y", "x"),
                 ("p", ("s", "z"), "x")]
        for one, other, third, fourth in itertools.product(terms, repeat=4):
            self.check((one, other), (third, fourth))

    def test_as_general_as_any_pairs(self):
        """What point 5 says of several pairs, by pairs that are put in one after the other."""
        terms = ["x", "y", ZERO, ("s", "x"), ("p", "x", "y"), ("p", "y", ("s", "x"))]
        worths = ["x", "y", ZERO, ONE, ("s", "y"), ("p", "y", "x"), ("p", ZERO, ONE)]
        many = 0
        for one, other, third in itertools.product(terms, repeat=3):
            row, second = (one, other), (third, "y")
            pairs = fitted(row, second)
            for put in itertools.product(worths, repeat=2):
                these = tuple(zip("xy", put))
                if row_under(row, these) == row_under(second, these):
                    many += 1
                    both = row_under(row, pairs)
                    self.assertIsNotNone(matched(both, row_under(row, these)))
        self.assertGreater(many, 100)

    def test_greatest(self):
        self.assertEqual(fitted((tower(8, "x"),), (tower(8, ZERO),)), (("x", ZERO),))
        self.assertEqual(fitted((tower(8, "x"), "y"), ("y", tower(8, "x"))),
                         (("y", tower(8, "x")),))
        self.assertEqual(fitted((tower(8, "x"), "x"), ("y", tower(8, ZERO))),
                         (("x", tower(8, ZERO)), ("y", tower(16, ZERO))))
        self.assertIsNone(fitted((tower(8, "x"), "x"), ("y", tower(8, "y"))))

    def test_far_beyond_the_depth(self):
        pairs = fitted(("x", tower(3000, "x")), (tower(3000, ZERO), "y"))
        self.assertEqual([(name, size(term)) for name, term in pairs], [("x", 3001), ("y", 6001)])
        self.assertIsNone(fitted(("x",), (tower(3000, "x"),)))


if __name__ == "__main__":
    unittest.main()
