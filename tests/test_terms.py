"""Names, terms, their parts, things and terms under pairs (points 4 and 5)."""

import unittest

from leanround.terms import deep, is_name, names_in, parts, same, size, under

ZERO = ("zero",)
ONE = ("s", ZERO)
TREE = ("p", ("s", "x"), ("p", "y", ("p", "x", ZERO)))


def tower(many, top):
    for _ in range(many):
        top = ("s", top)
    return top


def comb(many, last):
    """A term of 2 * many + 1 parts that is as deep as many, leaning to the right."""
    for n in range(many):
        last = ("p", "abcdefgh"[n], last)
    return last


def tree(depth):
    return ZERO if depth == 0 else ("p", tree(depth - 1), tree(depth - 1))


class IsName(unittest.TestCase):
    def test_lengths(self):
        for text in ("a", "z", "q", "ab", "abcdefgh", "zzzzzzzz"):
            self.assertIs(is_name(text), True, text)
        for text in ("", "abcdefghi", "a" * 9, "a" * 8000):
            self.assertIs(is_name(text), False, text)

    def test_all_letters(self):
        for letter in "abcdefghijklmnopqrstuvwxyz":
            self.assertIs(is_name(letter), True)
            self.assertIs(is_name(letter * 8), True)

    def test_words(self):
        for text in ("if", "to", "lefts"):
            self.assertIs(is_name(text), False, text)
        near = ("i", "f", "iff", "aif", "t", "o", "too", "ato", "left", "lefs", "efts",
                "leftss", "alefts", "fi", "ot", "stfel", "tto", "ifto", "rights", "with", "by",
                "rule", "saying", "maker", "same", "cases")
        for text in near:
            self.assertIs(is_name(text), True, text)

    def test_other_signs(self):
        for code in [*range(32, 127), 10, 9, 13, 0, 233, 946]:
            one = chr(code)
            if not "a" <= one <= "z":
                for text in (one, one + "a", "a" + one, "a" + one + "b", one * 8):
                    self.assertIs(is_name(text), False, repr(text))

    def test_line_feed_behind(self):
        for text in ("a\n", "abcdefgh\n", "abcdefg\n", "\na", "\n", "if\n", "a\nb"):
            self.assertIs(is_name(text), False, repr(text))

    def test_by_name(self):
        self.assertIs(is_name(text="a"), True)


class Parts(unittest.TestCase):
    def test_name_and_maker_alone(self):
        self.assertEqual(parts("x"), ["x"])
        self.assertEqual(parts("abcdefgh"), ["abcdefgh"])
        self.assertEqual(parts(ZERO), [ZERO])
        self.assertEqual(parts(term=("x",)), [("x",)])

    def test_order(self):
        self.assertEqual(parts(("s", "x")), [("s", "x"), "x"])
        self.assertEqual(parts(TREE), [
            TREE, ("s", "x"), "x", ("p", "y", ("p", "x", ZERO)), "y", ("p", "x", ZERO), "x",
            ZERO])

    def test_each_time(self):
        self.assertEqual(parts(("p", "x", "x")), [("p", "x", "x"), "x", "x"])

    def test_greatest(self):
        term = ("s", comb(7, ("p", ("s", ZERO), "x")))
        found = parts(term)
        self.assertEqual(len(found), 19)
        self.assertEqual(found[1], comb(7, ("p", ("s", ZERO), "x")))
        self.assertEqual(found[-4:], [("p", ("s", ZERO), "x"), ("s", ZERO), ZERO, "x"])

    def test_told_list_is_the_askers_own(self):
        found = parts(TREE)
        kept = list(found)
        found.clear()
        self.assertEqual(parts(TREE), kept)
        again = parts(TREE)
        again.append("z")
        self.assertEqual(parts(TREE), kept)

    def test_far_beyond_the_depth(self):
        self.assertEqual(len(parts(tower(5000, "x"))), 5001)


class Deep(unittest.TestCase):
    def test_nought(self):
        for term in ("x", "abcdefgh", ZERO, ("x",)):
            self.assertEqual(deep(term), 0)

    def test_deeper(self):
        self.assertEqual(deep(("s", "x")), 1)
        self.assertEqual(deep(ONE), 1)
        self.assertEqual(deep(("p", "x", ONE)), 2)
        self.assertEqual(deep(("p", ("s", ONE), "x")), 3)
        self.assertEqual(deep(TREE), 3)

    def test_greatest(self):
        self.assertEqual(deep(tower(8, "x")), 8)
        self.assertEqual(deep(term=tower(8, ZERO)), 8)
        self.assertEqual(deep(("p", "x", comb(7, "x"))), 8)

    def test_far_beyond(self):
        self.assertEqual(deep(tower(5000, "x")), 5000)


class Size(unittest.TestCase):
    def test_sizes(self):
        self.assertEqual(size(ZERO), 1)
        self.assertEqual(size(ONE), 2)
        self.assertEqual(size(("p", ZERO, ZERO)), 3)
        self.assertEqual(size(("p", ONE, ("p", ONE, ZERO))), 7)
        self.assertEqual(size(thing=tree(4)), 31)

    def test_far_beyond(self):
        self.assertEqual(size(tower(5000, ZERO)), 5001)


class NamesIn(unittest.TestCase):
    def test_none(self):
        self.assertEqual(names_in(()), [])
        self.assertEqual(names_in((ZERO, ONE)), [])
        self.assertEqual(names_in((("x",),)), [])

    def test_order_and_once(self):
        self.assertEqual(names_in((TREE,)), ["x", "y"])
        self.assertEqual(names_in(("z", "a", "z", "b")), ["z", "a", "b"])
        self.assertEqual(names_in((("p", ("p", "c", "b"), "a"), "d", ("s", "b"))),
                         ["c", "b", "a", "d"])
        self.assertEqual(names_in(terms=(("p", "y", "x"), ("p", "x", "y"))), ["y", "x"])

    def test_makers_are_no_names(self):
        self.assertEqual(names_in((("x", "y"), ("y", ("x", "z", "x")))), ["y", "z", "x"])

    def test_told_list_is_the_askers_own(self):
        terms = (TREE, "z")
        found = names_in(terms)
        found.reverse()
        found.append("q")
        self.assertEqual(names_in(terms), ["x", "y", "z"])


class Under(unittest.TestCase):
    def test_names(self):
        self.assertEqual(under("x", (("x", "y"),)), "y")
        self.assertEqual(under("x", (("x", ONE),)), ONE)
        self.assertEqual(under("x", (("y", ONE),)), "x")
        self.assertEqual(under("x", (("x", "x"),)), "x")

    def test_no_pairs(self):
        for term in ("x", ZERO, ONE, TREE):
            self.assertEqual(under(term, ()), term)

    def test_all_at_once(self):
        turned = (("x", "y"), ("y", "x"))
        self.assertEqual(under(("p", "x", "y"), turned), ("p", "y", "x"))
        self.assertEqual(under(TREE, turned), ("p", ("s", "y"), ("p", "x", ("p", "y", ZERO))))
        three = (("x", "y"), ("y", "z"), ("z", "x"))
        self.assertEqual(under(("p", "x", ("p", "y", "z")), three), ("p", "y", ("p", "z", "x")))

    def test_what_is_put_in_stays(self):
        self.assertEqual(under(("s", "x"), (("x", ("s", "x")),)), ("s", ("s", "x")))
        self.assertEqual(under("x", (("x", ("p", "x", "y")), ("y", ZERO))), ("p", "x", "y"))

    def test_names_without_a_pair(self):
        self.assertEqual(under(("p", "x", ("p", "y", "x")), (("x", ZERO),)),
                         ("p", ZERO, ("p", "y", ZERO)))
        self.assertEqual(under(("p", "a", "b"), (("c", ZERO), ("d", "a"))), ("p", "a", "b"))

    def test_makers_are_no_names(self):
        self.assertEqual(under(("x", ("x",)), (("x", ZERO),)), ("x", ("x",)))

    def test_by_names(self):
        self.assertEqual(under(term="x", pairs=(("x", ZERO),)), ZERO)

    def test_greatest(self):
        self.assertEqual(under(tower(8, "x"), (("x", tower(8, "y")),)), tower(16, "y"))
        put = tuple([(name, ONE) for name in "abcdefgh"])
        told = under(comb(8, "z"), put)
        self.assertEqual(parts(told).count(ONE), 8)
        self.assertEqual(names_in((told,)), ["z"])

    def test_far_beyond(self):
        told = under(tower(3000, "x"), (("x", tower(3000, ZERO)),))
        self.assertEqual(size(told), 6001)

    def test_nothing_changed(self):
        pairs = (("x", "y"), ("y", "x"))
        self.assertEqual(under(TREE, pairs), under(TREE, pairs))
        self.assertEqual(TREE, ("p", ("s", "x"), ("p", "y", ("p", "x", ZERO))))
        self.assertEqual(pairs, (("x", "y"), ("y", "x")))


class Same(unittest.TestCase):
    def test_same(self):
        self.assertTrue(same(TREE, ("p", ("s", "x"), ("p", "y", ("p", "x", ("zero",))))))
        self.assertTrue(same("x", "x"))
        self.assertTrue(same(tower(5000, ZERO), tower(5000, ZERO)))

    def test_unlike(self):
        self.assertFalse(same("x", "y"))
        self.assertFalse(same("x", ("x",)))
        self.assertFalse(same(("p", "x"), ("p", "x", "y")))
        self.assertFalse(same(("p", ("s", "x", "y")), ("p", ("s", "x"), "y")))
        self.assertFalse(same(("p", ONE, "x"), ("p", "x", ONE)))
        self.assertFalse(same(("p", ("s", "x"), "y"), ("p", "x", ("s", "y"))))
        self.assertFalse(same(tower(5000, ZERO), tower(5000, "x")))


if __name__ == "__main__":
    unittest.main()
