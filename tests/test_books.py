"""What a book is, and looking at it (point 6)."""

import itertools
import random
import unittest

import samples
from leanround.books import look_book, rules_of
from leanround.errors import NoBook
from samples import BOOK, EVEN, LIST, MAKERS, NAT, PLUS, ZERO

SMALL = (("zero", 0), ("s", 1), ("p", 2))


def book_of(*rules, many=1, by=0, name="f", more=()):
    return (SMALL, ((name, many, by, tuple(rules)), *more))


def listed(told):
    return [listed(part) for part in told] if isinstance(told, (list, tuple)) else told


def frozen(told):
    return tuple([frozen(part) for part in told]) if isinstance(told, (list, tuple)) else told


class Looks(unittest.TestCase):
    def refused(self, book, word, name):
        for _ in range(2):
            with self.assertRaises(NoBook) as caught:
                look_book(book)
            self.assertEqual((caught.exception.word, caught.exception.name), (word, name))

    def let_by(self, book):
        self.assertIs(look_book(book), True)
        self.assertIs(look_book(book=book), True)


class LetBy(Looks):
    def test_ordinary(self):
        self.let_by(BOOK)
        self.let_by((MAKERS, (NAT, EVEN, samples.ODD)))

    def test_none(self):
        self.let_by(((), ()))
        self.let_by((SMALL, ()))
        self.let_by(((("s", 1),), ()))

    def test_sayings_without_makers(self):
        self.let_by(((), (("f", 1, 0, ()), ("g", 3, 2, ((("x", "y", "x"), ()),)))))

    def test_saying_without_rules(self):
        self.let_by(book_of())
        self.let_by(book_of(many=3, by=2))

    def test_maker_and_saying_of_one_name(self):
        self.let_by(book_of(((("s", "s"),), (("s", ("s",)),)), name="s"))

    def test_takes_many_by(self):
        for takes in (0, 1, 2):
            self.let_by(((("a", takes),), ()))
        for many in (1, 2, 3):
            for by in range(many):
                self.let_by(book_of(many=many, by=by))

    def test_names(self):
        for name in ("a", "z", "abcdefgh", "iff", "too", "left", "saying", "with"):
            self.let_by((((name, 0),), ((name, 1, 0, ((((name,),), ()), ((name,), ()))),)))

    def test_needs_saying_behind(self):
        self.let_by(book_of(((("s", "x"),), (("g", ("x",)),)), more=(("g", 1, 0, ()),)))

    def test_by_of_both_sayings(self):
        # The need's saying is by its last place, the rule's by its middle one.
        more = (("g", 2, 1, ()),)
        rule = (("x", ("p", "y", "z"), ("s", "w")), (("g", ("w", "y")),))
        self.let_by(book_of(rule, many=3, by=1, more=more))
        rule = (("x", ("p", "y", "z"), ("s", "w")), (("g", ("y", "w")),))
        self.refused(book_of(rule, many=3, by=1, more=more), "lesser", "f")

    def test_lesser_terms_of_several_parts(self):
        head = ("p", ("s", ("s", "x")), ("p", "y", ZERO))
        for term in ("x", ("s", "x"), ("s", ("s", "x")), "y", ZERO, ("p", "y", ZERO)):
            self.let_by(book_of(((head,), (("f", (term,)),))))
        for term in (head, ("s", "y"), ("s", ZERO), ("p", "x", ZERO), ("s", ("s", ("s", "x")))):
            self.refused(book_of(((head,), (("f", (term,)),))), "lesser", "f")

    def test_greatest(self):
        makers = tuple(zip("abcdef", (0, 0, 0, 1, 1, 2)))
        head = "x"
        for k in range(8):
            head = ("f", head, "xyzuvwst"[k])
        needs = (("k" * 6, ("x", "y", "z")), ("k" * 6, (head[1], head, head)))
        sayings = [("k" * n, 3, 0, (((head, "q", "r"), needs),) * 4) for n in range(1, 7)]
        self.let_by((makers, tuple(sayings)))

    def test_made_by_chance(self):
        for seed in range(200):
            self.let_by(samples.any_book(random.Random(seed)))


class Fronts(Looks):
    def test_maker_name(self):
        for name in ("", "if", "to", "lefts", "abcdefghi", "A", "a b", "a1", "a\n", "x" * 8000):
            self.refused((((name, 0),), ()), "name", name)
            self.refused(((("a", 0), (name, 7)), (("", 0, 0, ()),)), "name", name)

    def test_maker_twice(self):
        self.refused(((("a", 0), ("b", 1), ("a", 2)), ()), "twice", "a")
        self.refused(((("a", 0), ("b", 1), ("b", 1), ("a", 2)), ()), "twice", "b")

    def test_takes(self):
        for takes in (-1, 3, -10 ** 30, 10 ** 30):
            self.refused(((("a", 0), ("b", takes)), ()), "takes", "b")

    def test_saying_name(self):
        for name in ("", "if", "to", "lefts", "abcdefghi", "Even", "e n", "e\n"):
            self.refused((SMALL, ((name, 1, 0, ()),)), "name", name)

    def test_saying_twice(self):
        front = ("f", 1, 0, ())
        self.refused((SMALL, (front, ("g", 1, 0, ()), ("f", 2, 1, ()))), "twice", "f")
        self.refused((SMALL, (front, front)), "twice", "f")

    def test_many(self):
        for many in (0, 4, -1, 10 ** 30):
            self.refused(book_of(many=many), "many", "f")

    def test_by(self):
        for many in (1, 2, 3):
            for by in (-1, many, -many, 10 ** 30):
                self.refused(book_of(many=many, by=by), "by", "f")


class Rules(Looks):
    def test_heads(self):
        for heads in ((), ("x",), ("x", "y", "z"), ("x", "y", "z", "w")):
            self.refused(book_of((heads, ()), many=2), "heads", "f")
        self.refused(book_of(((), ())), "heads", "f")

    def test_head_term(self):
        wrong = (("q",), ("q", "x"), ("zero", "x"), ("s",), ("s", "x", "y"), ("p", "x"),
                 ("p", "x", "y", "z"), "", "if", "abcdefghi", "X", ("", ), ("if", "x"))
        for term in wrong:
            for head in (term, ("s", term), ("p", "x", ("p", term, "x"))):
                self.refused(book_of(((head,), ())), "term", "f")
                self.refused(book_of((("x",), ()), ((head,), ())), "term", "f")
                self.refused(book_of(((("s", "x"), head), ()), many=2), "term", "f")

    def test_maker_of_one_name_with_a_saying(self):
        self.refused(book_of(((("f", "x"),), ())), "term", "f")

    def refused_need(self, need, word, heads=(("s", ("p", "x", "y")),)):
        """A need refused, alone, and behind one that isn't."""
        more = (("g", 2, 1, ()),)
        self.refused(book_of((heads, (need,)), more=more), word, "f")
        self.refused(book_of((heads, (("f", ("x",)), need)), more=more), word, "f")
        self.refused(book_of((("x",), ()), (heads, (need,)), more=more), word, "f")

    def test_saying(self):
        for name in ("h", "", "s", "zero", "F", "if"):
            self.refused_need((name, ("x",)), "saying")

    def test_count(self):
        for terms in ((), ("x", "y"), ("x", "x", "x")):
            self.refused_need(("f", terms), "count")
        for terms in ((), ("x",), ("x", "x", "y")):
            self.refused_need(("g", terms), "count")

    def test_need_term(self):
        for term in (("q",), ("s",), ("s", "x", "y"), "", "to", "X", ("p", "x", ("s",))):
            self.refused_need(("f", (term,)), "term")
            self.refused_need(("g", (term, "x")), "term")
            self.refused_need(("g", ("x", term)), "term")

    def test_loose(self):
        self.refused_need(("f", ("z",)), "loose")
        self.refused_need(("g", ("z", "x")), "loose")
        self.refused_need(("g", (("s", ("p", "x", "z")), "x")), "loose")
        self.refused_need(("f", ("s",)), "loose")

    def test_name_that_stands_in_another_head(self):
        book = book_of((("x", ("s", "y")), (("f", ("x", "y")),)), many=2, by=1)
        self.let_by(book)

    def test_lesser_is_the_head(self):
        self.refused_need(("f", (("s", ("p", "x", "y")),)), "lesser")
        self.refused_need(("f", ("x",)), "lesser", heads=("x",))
        self.refused(book_of(((ZERO,), (("f", (ZERO,)),))), "lesser", "f")

    def test_lesser_is_no_part(self):
        self.refused_need(("f", (("s", "x"),)), "lesser")
        self.refused_need(("f", (("p", "y", "x"),)), "lesser")
        self.refused_need(("f", (ZERO,)), "lesser")
        self.refused_need(("g", ("x", ("s", "y"))), "lesser")

    def test_lesser_is_part_of_another_head(self):
        rule = ((("s", "x"), ("s", "y")), (("f", ("y", "x")),))
        self.refused(book_of(rule, many=2), "lesser", "f")
        self.refused(book_of((("x", ("s", "x")), (("f", ("x", "x")),)), many=2), "lesser", "f")
        self.let_by(book_of((("x", ("s", "x")), (("f", ("x", "x")),)), many=2, by=1))

    def test_name_told_is_the_rules_sayings(self):
        more = (("g", 1, 0, (((("s", "x"),), (("f", ("y",)),)),)),)
        self.refused(book_of(((("s", "x"),), (("g", ("x",)),)), more=more), "loose", "g")


class Order(Looks):
    """Two things amiss at once: the one that is due first is told."""

    def setUp(self):
        need = ["g", ["x", "x", "x"]]
        self.good = listed([
            [["a", 0], ["b", 1], ["c", 2]],
            [["f", 1, 0, [[[["b", "x"]], []], [[["b", "x"]], [need, need]]]],
             ["g", 3, 2, [[["x", "y", ["b", "x"]], [need]]]],
             ["h", 2, 1, [[["x", ["c", "x", "y"]], [["h", ["x", "y"]]]]]]]])

    def amiss(self):
        """(the place of what is amiss, what stands there, word, name), in the order told."""
        told = []
        for at, name in ((0, "a"), (1, "b"), (2, "c")):
            told.append(((0, at, 0), "N", "name", "N"))
            if at:
                told.append(((0, at, 0), "a", "twice", "a"))
            told.append(((0, at, 1), 3, "takes", name))
        for at, name in ((0, "f"), (1, "g"), (2, "h")):
            told.append(((1, at, 0), "", "name", ""))
            if at:
                told.append(((1, at, 0), "f", "twice", "f"))
            told.append(((1, at, 1), 4, "many", name))
            told.append(((1, at, 2), 3, "by", name))
        for at, rule, name in ((0, 0, "f"), (0, 1, "f"), (1, 0, "g"), (2, 0, "h")):
            place = (1, at, 3, rule)
            told.append(((*place, 0), [], "heads", name))
            told.append(((*place, 0, 0), ["b"], "term", name))
            for need in range(len(self.good[1][at][3][rule][1])):
                within = (*place, 1, need)
                last = len(self.good[1][at][3][rule][1][need][1]) - 1
                told.append(((*within, 0), "q", "saying", name))
                told.append(((*within, 1), [], "count", name))
                told.append(((*within, 1, 0), ["b", "x", "x"], "term", name))
                told.append(((*within, 1, 0), "zz", "loose", name))
                told.append(((*within, 1, last), ["b", "x"], "lesser", name))
        return told

    def test_good(self):
        self.let_by(frozen(self.good))

    def put(self, book, place, worth):
        """Puts what is amiss where it stands; nothing where that stands no more."""
        for at in place[:-1]:
            if at >= len(book):
                return
            book = book[at]
        if isinstance(book, list) and place[-1] < len(book):
            book[place[-1]] = worth

    def test_each_alone(self):
        for place, worth, word, name in self.amiss():
            book = listed(self.good)
            self.put(book, place, worth)
            self.refused(frozen(book), word, name)

    def test_two_at_once(self):
        for first, second in itertools.combinations(self.amiss(), 2):
            for one, other in ((first, second), (second, first)):
                book = listed(self.good)
                self.put(book, *one[:2])
                self.put(book, *other[:2])
                # What is put in the place of the first one, or around it, takes it away.
                if self.stands(book, first):
                    self.refused(frozen(book), *first[2:])
                elif self.stands(book, second):
                    self.refused(frozen(book), *second[2:])

    def stands(self, book, told):
        for at in told[0]:
            if not isinstance(book, list) or at >= len(book):
                return False
            book = book[at]
        return book == told[1]


class RulesOf(unittest.TestCase):
    def test_rules(self):
        for name, _, _, rules in BOOK[1]:
            self.assertEqual(rules_of(BOOK, name), rules)
            self.assertIsInstance(rules_of(book=BOOK, name=name), tuple)
        self.assertEqual(rules_of(BOOK, "plus"), PLUS[3])
        self.assertEqual(rules_of(BOOK, "list"), LIST[3])

    def test_none(self):
        self.assertEqual(rules_of(book_of(), "f"), ())

    def test_maker_of_that_name(self):
        book = book_of((("x",), ()), name="s")
        self.assertEqual(rules_of(book, "s"), ((("x",), ()),))


if __name__ == "__main__":
    unittest.main()
