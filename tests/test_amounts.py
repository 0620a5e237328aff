"""Point 02.2 and amounts.py of the interface."""

import unittest

from cellcloth.amounts import amount
from cellcloth.errors import KindError, LimitError


class AmountsTest(unittest.TestCase):
    def raises_kind(self, e, counters=None):
        with self.assertRaises(KindError) as caught:
            amount(e, counters or {})
        self.assertEqual(caught.exception.place, "")

    def raises_limit(self, e, counters=None):
        with self.assertRaises(LimitError) as caught:
            amount(e, counters or {})
        self.assertEqual(caught.exception.kind, "amount")

    def test_numbers_and_names(self):
        for n in (0, 1, -1, 999999, 1000000, -1000000):
            self.assertEqual(amount(n, {}), n)
        self.assertEqual(amount("W", {"W": 7, "V": 8}), 7)
        self.assertEqual(amount("i", {"i": -3}), -3)

    def test_ops(self):
        for a in (-7, -6, -1, 0, 1, 5, 6, 7):
            for b in (-3, -2, -1, 0, 1, 2, 3):
                self.assertEqual(amount(("add", a, b), {}), a + b)
                self.assertEqual(amount(("sub", a, b), {}), a - b)
                self.assertEqual(amount(("mul", a, b), {}), a * b)
                self.assertEqual(amount(("max", a, b), {}), a if a > b else b)
                self.assertEqual(amount(("min", a, b), {}), a if a < b else b)
                self.assertEqual(amount(("less", a, b), {}), 1 if a < b else 0)
                self.assertEqual(amount(("same", a, b), {}), 1 if a == b else 0)
        self.assertIs(type(amount(("less", 1, 2), {})), int)
        self.assertIs(type(amount(("same", 2, 2), {})), int)

    def test_div_and_mod(self):
        cases = [(7, 2, 3, 1), (-7, 2, -4, 1), (7, -2, -4, -1), (-7, -2, 3, -1), (6, -3, -2, 0), (0, 5, 0, 0),
                 (1, 1000000, 0, 1), (-1, 1000000, -1, 999999)]
        for a, b, quotient, rest in cases:
            self.assertEqual(amount(("div", a, b), {}), quotient)
            self.assertEqual(amount(("mod", a, b), {}), rest)

    def test_bits(self):
        for n, told in ((0, 1), (1, 1), (2, 2), (3, 2), (4, 3), (7, 3), (8, 4), (255, 8), (256, 9), (1000000, 20)):
            self.assertEqual(amount(("bits", n), {}), told)
        self.raises_kind(("bits", -1))
        self.raises_kind(("bits", ("sub", 2, 3)))

    def test_names_that_are_none(self):
        self.raises_kind("W")
        self.raises_kind("w", {"W": 1})
        self.raises_kind(("add", 1, ("mul", "x", 2)), {"y": 1})

    def test_divisor_0(self):
        self.raises_kind(("div", 1, 0))
        self.raises_kind(("mod", 1, 0))
        self.raises_kind(("div", 0, ("sub", "W", 4)), {"W": 4})

    def test_limits(self):
        self.assertEqual(amount(("add", 999999, 1), {}), 1000000)
        self.assertEqual(amount(("sub", -999999, 1), {}), -1000000)
        self.assertEqual(amount(("mul", 1000, -1000), {}), -1000000)
        self.raises_limit(1000001)
        self.raises_limit(-1000001)
        self.raises_limit(9999999)
        self.raises_limit(("add", 1000000, 1))
        self.raises_limit(("sub", -1000000, 1))
        self.raises_limit(("mul", 1001, 1000))
        self.raises_limit("W", {"W": 1000001})
        # A part counts, also if the whole would be within.
        self.raises_limit(("sub", ("add", 1000000, 1), 1))
        self.raises_limit(("mul", 0, ("mul", 1000, 1001)))
        self.raises_limit(("less", 2000000, 1))
        self.raises_limit(("bits", 1000001))

    def test_the_first_fault_from_the_left(self):
        self.raises_kind(("add", "x", 2000000))
        self.raises_limit(("add", 2000000, "x"))
        self.raises_limit(("div", 2000000, 0))
        self.raises_kind(("div", ("bits", -1), 2000000))
        self.raises_kind(("mul", ("div", 1, 0), ("mul", 10000, 10000)))
        self.raises_limit(("mul", ("mul", 10000, 10000), ("div", 1, 0)))
        # Its parts come ahead of the amount itself.
        self.raises_limit(("mod", 5, ("add", 1000000, 1)))

    def test_nested(self):
        e = "W"
        for _ in range(30):
            e = ("add", e, ("sub", 2, 1))
        self.assertEqual(amount(e, {"W": 3}), 33)

    def test_counters_stay(self):
        counters = {"W": 4, "i": 2}
        e = ("add", ("mul", "W", "i"), ("bits", "W"))
        self.assertEqual(amount(e, counters), 11)
        self.assertEqual(counters, {"W": 4, "i": 2})
        self.assertEqual(amount(e, counters), 11)


if __name__ == "__main__":
    unittest.main()
