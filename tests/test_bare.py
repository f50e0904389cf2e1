"""Bare papers (point 17): rows without claims, run by whys alone."""

import time
import unittest

from leanround.bare import bare, run_bare
from leanround.errors import TooLong
from leanround.unrolling import unrolled
from leanround.whys import why_of
from plainly_run import plainly_unrolled
from sample_papers import ALL_FORMS, EVEN_PAPER, TO_ITSELF, even, nat, odd, s
from sample_runs import (
    FULL_PAPER, GROWING, LISTED, ONE_WAY, WIDE_PAPER, runs_by_chance, runs_of_nets)
from samples import ZERO, number

SHORT = 5


class Rows(unittest.TestCase):
    def told(self, paper, *rows):
        for _ in range(2):
            self.assertEqual(bare(paper), rows)
        self.assertEqual(repr(bare(paper=paper)), repr(rows))

    def test_same(self):
        self.told(((((nat("x"), nat("y")), (nat("y"),)), ("same", 1, 0)),), ("give", 1, 0))

    def test_cases(self):
        paper = (((((nat("x"), nat(s("x"))), (nat("x"),)), ("cases", 1, (None, 1)))),
                 (((nat("x"), nat("x")), (nat("x"),)), ("same", 0, 0)))
        self.told(paper, ("open", 1, (None, 1)), ("give", 0, 0))
        book_without = ((((("no", ("x",)),), (nat("x"),)), ("cases", 0, ())),)
        self.told(book_without, ("open", 0, ()))

    def test_use(self):
        self.told(LISTED[2:3], ("build", 0, 1, (3, 4)))
        self.told(LISTED[1:2], ("build", 0, 0, ()))
        self.told(((((), (even(ZERO), nat(s(ZERO)))), ("use", 1, 1, (7,))),),
                  ("build", 1, 1, (7,)))

    def test_fill(self):
        """Its pairs aren't kept."""
        self.told(LISTED[4:], ("lead", 0, (1, 2), (0, 1)))
        self.told(TO_ITSELF, ("lead", 0, (), (0,)))

    def test_put(self):
        """Its atom isn't kept, but how many stand on that node's right, without the atom."""
        for many in range(1, 5):
            right = (nat("x"),) * many
            self.told(((((odd("x"),), right), ("put", even("x"), 5, 3)),), ("ask", many, 5, 3))

    def test_written_out(self):
        self.told(ALL_FORMS, ("ask", 1, 1, 2), ("build", 1, 1, (3,)), ("lead", 4, (0,), (0,)),
                  ("give", 0, 1), ("open", 0, (5, 6)), ("build", 0, 0, ()), ("build", 0, 1, (7,)),
                  ("lead", 4, (0,), (0,)))
        self.told(EVEN_PAPER, ("open", 0, (1, 2)), ("build", 0, 0, ()), ("build", 0, 1, (3,)),
                  ("open", 0, (4,)), ("build", 0, 1, (0,)))


class Runs(unittest.TestCase):
    def check(self, book, paper, things, whys):
        """A bare paper tells what the paper tells, whatever the things were."""
        told, _ = plainly_unrolled(book, paper, things, whys)
        rows = bare(paper)
        for given in (tuple(whys), list(whys)):
            self.assertEqual(run_bare(rows, given), told)
            self.assertEqual(run_bare(rows, given, told[2]), told)
            self.assertEqual(run_bare(most=told[2], whys=given, rows=rows), told)
            self.assertEqual(given.__class__(whys), given)
        self.assertEqual(unrolled(book, paper, things, whys), told)
        for most in {1, told[2] // 2, told[2] - 1} - {0, told[2]}:
            self.too_long(rows, whys, most)
        return told[2]

    def too_long(self, rows, whys, most):
        for told in (lambda: run_bare(rows, whys, most), lambda: run_bare(rows, whys, most=most)):
            with self.assertRaises(TooLong) as caught:
                told()
            self.assertEqual(caught.exception.most, most)

    def test_nets_and_written_out(self):
        for _, book, paper, things, whys in runs_of_nets(range(60)):
            self.check(book, paper, things, whys)

    def test_by_chance(self):
        gone = [self.check(book, paper, things, whys)
                for _, book, paper, things, whys in runs_by_chance(range(400, 1000), 12)]
        self.assertGreater(len([many for many in gone if many > 2]), 40)

    def test_rows_written_out(self):
        """Rows are run as they are, each form of them; parts of whys go along."""
        one, two = (0, ()), (1, ((0, ()),))
        for rows, whys, told in (
                ((("give", 1, 2),), (one, two), (2, two, 1)),
                ((("build", 3, 2, ()),), (), (3, (2, ()), 1)),
                ((("open", 1, (None, 1)), ("give", 1, 0)), (one, two, (2, ())), (0, one, 2)),
                ((("open", 1, (None, 1)), ("give", 2, 0)), (one, two, (2, ())), (0, (2, ()), 2)),
                ((("open", 0, (1, None)), ("give", 0, 0)), (one, two), (0, two, 2)),
                ((("lead", 1, (1, 1, 0), (3, 2)), ("give", 2, 0)), (one, two), (3, one, 2)),
                ((("build", 0, 1, (1, 2)), ("give", 0, 0), ("give", 1, 0)), (one, two),
                 (0, (1, (one, two)), 3)),
                ((("build", 0, 1, (1, 1)), ("give", 1, 1)), (one, two), (1, two, 2)),
                ((("ask", 1, 1, 2), ("give", 0, 1), ("give", 2, 0)), (one, two), (0, one, 3)),
                ((("ask", 1, 1, 2), ("give", 1, 0), ("give", 2, 0)), (one, two), (0, two, 2))):
            for _ in range(2):
                self.assertEqual(run_bare(rows, whys), told)
                self.assertEqual(run_bare(rows, list(whys)), told)

    def test_most_left_out(self):
        for most in (1, 5000, 10000):
            self.too_long(bare(TO_ITSELF), (), most)
        with self.assertRaises(TooLong) as caught:
            run_bare(bare(TO_ITSELF), ())
        self.assertEqual(caught.exception.most, 5000)
        rows = tuple([("lead", n + 1, (0,), (0,)) for n in range(4999)]) + (("give", 0, 0),)
        self.assertEqual(run_bare(rows, [(0, ())]), (0, (0, ()), 5000))
        rows = (("lead", 1, (0,), (0,)), *[("lead", n + 1, (0,), (0,)) for n in range(1, 5000)],
                ("give", 0, 0))
        with self.assertRaises(TooLong):
            run_bare(rows, [(0, ())])
        self.assertEqual(run_bare(rows, [(0, ())], 5001)[2], 5001)

    def test_not_let_by(self):
        self.assertEqual(run_bare(bare(ONE_WAY), ((0, ()),), 2), (1, (0, ()), 2))
        self.too_long(bare(ONE_WAY), ((1, ((0, ()),)),), 2)

    def test_in_short_time(self):
        began = time.perf_counter()
        why = why_of(GROWING, nat(number(60)))
        for paper in (FULL_PAPER, WIDE_PAPER):
            for _ in range(20):
                self.assertEqual(run_bare(bare(paper), (why,))[0], 0)
        self.assertLess(time.perf_counter() - began, SHORT)


if __name__ == "__main__":
    unittest.main()
