"""The eleven refusals (point 2, leanround/errors.py)."""

import unittest

from leanround import errors
from leanround.errors import (
    BadText, LeanError, Loose, NoBook, NoJoin, NoNode, NoPlain, NoRow, NoStep, TooLong, TooMany,
    Unknown)

UNDER_LEAN = {
    NoBook: ("word", "name"), NoStep: ("at",), TooMany: ("most",), Loose: ("ring",),
    TooLong: ("most",), NoJoin: (), NoPlain: ("at",), BadText: ("row",), NoRow: (),
}
OTHERS = {Unknown: ("name",), NoNode: ("at",)}
ALL = {**UNDER_LEAN, **OTHERS}
VALUES = ["", "twice", "a\nb", 0, -1, -10 ** 30, 10 ** 400, 10 ** 5000, (), ((0, 1), (2, 0)),
          ("name", ("s", "x"))]


class Refusals(unittest.TestCase):
    def test_there_are_eleven(self):
        self.assertEqual(len(ALL), 11)
        self.assertEqual(len({refusal.__name__ for refusal in ALL}), 11)

    def test_each_is_defined_in_errors(self):
        for refusal in [LeanError, *ALL]:
            self.assertEqual(refusal.__module__, "leanround.errors")
            self.assertIs(getattr(errors, refusal.__name__), refusal)

    def test_bases(self):
        self.assertEqual(LeanError.__bases__, (ValueError,))
        for refusal in UNDER_LEAN:
            self.assertEqual(refusal.__bases__, (LeanError,))
        self.assertEqual(Unknown.__bases__, (KeyError,))
        self.assertEqual(NoNode.__bases__, (IndexError,))

    def test_none_is_of_another_ones_class(self):
        for refusal, fields in ALL.items():
            made = refusal(*["x" for _ in fields])
            for other in ALL:
                self.assertEqual(isinstance(made, other), other is refusal)
            self.assertEqual(isinstance(made, LeanError), refusal in UNDER_LEAN)
            self.assertEqual(isinstance(made, ValueError), refusal in UNDER_LEAN)
            self.assertEqual(isinstance(made, KeyError), refusal is Unknown)
            self.assertEqual(isinstance(made, IndexError), refusal is NoNode)

    def test_fields_by_places_and_by_names(self):
        for refusal, fields in ALL.items():
            for n in range(len(VALUES)):
                values = [VALUES[(n + k) % len(VALUES)] for k in range(len(fields))]
                named = refusal(**dict(zip(fields, values)))
                for made in (refusal(*values), named):
                    self.assertEqual([getattr(made, field) for field in fields], values)

    def test_no_fields_are_left_out_or_too_many(self):
        for refusal, fields in ALL.items():
            if fields:
                with self.assertRaises(TypeError):
                    refusal(*["x" for _ in fields[1:]])
                with self.assertRaises(TypeError):
                    refusal(*["x" for _ in fields], "y")

    def test_each_keeps_its_own_fields(self):
        one, other = NoBook("twice", "zero"), NoBook("takes", "s")
        self.assertEqual((one.word, one.name), ("twice", "zero"))
        self.assertEqual((other.word, other.name), ("takes", "s"))

    def test_raised_and_caught(self):
        for refusal, fields in ALL.items():
            values = [(k, "x") for k in range(len(fields))]
            base = refusal.__bases__[0]
            with self.assertRaises(base) as caught:
                raise refusal(*values)
            self.assertIs(caught.exception.__class__, refusal)
            self.assertEqual([getattr(caught.exception, field) for field in fields], values)

    def test_lean_error_alone(self):
        self.assertIsInstance(LeanError("no"), ValueError)
        for refusal in ALL:
            self.assertNotIsInstance(LeanError("no"), refusal)


if __name__ == "__main__":
    unittest.main()
