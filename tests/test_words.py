"""Chapter 01 and words.py of the interface."""

import unittest

from cellcloth.words import SIGNS, arguments_of, calculate, result_width

ONE = ("not", "any", "all", "odd")
TO_A_BIT = ("same", "less", "any", "all", "odd")


def bits(word, width):
    return [(word // 2 ** k) % 2 for k in range(width)]


def number(row):
    return sum(bit * 2 ** k for k, bit in enumerate(row))


def expected(sign, width, words):
    """The table of point 01.1, bit by bit where it can be."""
    a = bits(words[0], width)
    b = bits(words[1], width) if len(words) == 2 and sign not in ("shl", "shr") else None
    if sign == "not":
        return number([1 - x for x in a])
    if sign == "and":
        return number([x * y for x, y in zip(a, b)])
    if sign == "or":
        return number([max(x, y) for x, y in zip(a, b)])
    if sign == "xor":
        return number([(x + y) % 2 for x, y in zip(a, b)])
    if sign in ("add", "sub", "mul"):
        first, second = words
        full = {"add": first + second, "sub": first - second, "mul": first * second}[sign]
        return full % 2 ** width
    if sign == "same":
        return int(a == b)
    if sign == "less":
        return int(words[0] < words[1])
    if sign == "shl":
        return number(([0] * min(words[1], width) + a)[:width])
    if sign == "shr":
        return number(a[words[1]:])
    return {"any": int(1 in a), "all": int(0 not in a), "odd": sum(a) % 2}[sign]


class WordsTest(unittest.TestCase):
    def test_signs(self):
        self.assertEqual(SIGNS, (
            "not", "and", "or", "xor", "add", "sub", "mul", "same", "less", "shl", "shr", "any", "all", "odd"))
        self.assertIsInstance(SIGNS, tuple)

    def test_arguments(self):
        for sign in SIGNS:
            self.assertEqual(arguments_of(sign), 1 if sign in ONE else 2)

    def test_result_width(self):
        for sign in SIGNS:
            for width in range(1, 17):
                self.assertEqual(result_width(sign, width), 1 if sign in TO_A_BIT else width)

    def test_example(self):
        self.assertEqual(
            [calculate("add", 4, [9, 9]), calculate("sub", 4, [1, 2]), calculate("shl", 4, [5, 2]),
             calculate("shr", 4, [5, 16]), calculate("odd", 3, [7])], [2, 15, 4, 0, 1])
        self.assertEqual([result_width("less", 9), result_width("mul", 9)], [1, 9])

    def test_all_small_words(self):
        for width in range(1, 5):
            for sign in SIGNS:
                for a in range(2 ** width):
                    if sign in ONE:
                        self.check(sign, width, [a])
                        continue
                    for b in range(2 ** width):
                        self.check(sign, width, [a, b])

    def test_edges_of_wide_words(self):
        for width in (5, 8, 15, 16):
            greatest = 2 ** width - 1
            edges = (0, 1, 2, greatest // 2, greatest // 2 + 1, greatest - 1, greatest)
            for sign in SIGNS:
                for a in edges:
                    if sign in ONE:
                        self.check(sign, width, [a])
                        continue
                    for b in edges:
                        self.check(sign, width, [a, b])

    def test_moves(self):
        for width in (1, 3, 15, 16):
            greatest = 2 ** width - 1
            for by in (0, 1, width - 1, width, width + 1, 31, 32, 100, 65535):
                for word in (0, 1, greatest, greatest // 3 + 1):
                    self.check("shl", width, [word, by])
                    self.check("shr", width, [word, by])
        self.assertEqual(calculate("shl", 1, [1, 2]), 0)
        self.assertEqual(calculate("shr", 3, [7, 8]), 0)
        self.assertEqual(calculate("shl", 16, [65535, 15]), 32768)
        self.assertEqual(calculate("shr", 16, [65535, 15]), 1)

    def test_wraps(self):
        self.assertEqual(calculate("add", 16, [65535, 65535]), 65534)
        self.assertEqual(calculate("sub", 16, [0, 65535]), 1)
        self.assertEqual(calculate("mul", 16, [65535, 65535]), 1)
        self.assertEqual(calculate("not", 16, [0]), 65535)
        self.assertEqual(calculate("add", 1, [1, 1]), 0)

    def check(self, sign, width, words):
        told = calculate(sign, width, words)
        self.assertEqual(told, expected(sign, width, words), (sign, width, words))
        self.assertIs(type(told), int)
        self.assertEqual(calculate(sign, width, tuple(words)), told)

    def test_arguments_stay(self):
        words = [9, 7]
        calculate("add", 4, words)
        calculate("shl", 4, words)
        self.assertEqual(words, [9, 7])


if __name__ == "__main__":
    unittest.main()
