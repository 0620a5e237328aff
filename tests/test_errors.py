"""errors.py of the interface."""

import unittest

from cellcloth.errors import BitsError, ClothError, FitError, KindError, LimitError, LoopError, TextError


class ErrorsTest(unittest.TestCase):
    def test_base(self):
        self.assertEqual(ClothError.__bases__, (ValueError,))
        with self.assertRaises(ValueError):
            raise ClothError("x")

    def test_all_stand_directly_under_the_base(self):
        for error in (TextError, BitsError, KindError, FitError, LimitError, LoopError):
            self.assertEqual(error.__bases__, (ClothError,))

    def test_attributes(self):
        cases = [
            (TextError, "line", 7), (TextError, "line", 1), (BitsError, "at", 0), (BitsError, "at", 123),
            (KindError, "place", ""), (KindError, "place", "p.0.a"), (FitError, "kind", "pins"),
            (LimitError, "kind", "rows"), (LoopError, "places", []), (LoopError, "places", ["a", "b.c"]),
        ]
        for error, attribute, value in cases:
            made = error(value)
            self.assertEqual(getattr(made, attribute), value)
            with self.assertRaises(ClothError) as caught:
                raise made
            self.assertEqual(getattr(caught.exception, attribute), value)
            self.assertIsInstance(str(made), str)

    def test_one_is_not_another(self):
        with self.assertRaises(LimitError):
            try:
                raise LimitError("rows")
            except (KindError, FitError, TextError, BitsError, LoopError):
                self.fail()


if __name__ == "__main__":
    unittest.main()
