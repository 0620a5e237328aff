"""Point 03.4 and writing.py of the interface."""

import copy
import unittest

from cellcloth.parsing import parse
from cellcloth.writing import written
from making import made

A = ("ref", ("a", ()))
B = ("ref", ("b", ()))


def item_text(*items):
    text = written(("description", (("part", "c", (), items),), "c", ()))
    head, tail = "part c() {\n", "}\ntop c();\n"
    assert text.startswith(head) and text.endswith(tail)
    return text[len(head):-len(tail)]


def amount_text(e):
    text = item_text(("in", "a", e))
    return text[len("  in a: "):-len(";\n")]


def expression_text(x):
    text = item_text(("out", "s", 1, x))
    return text[len("  out s: 1 = "):-len(";\n")]


class WritingTest(unittest.TestCase):
    def test_example(self):
        text = "part half(W) {\n  in a: W;\n  out s: (W - 1) = cut(a, 1, (W - 1));\n}\ntop half(4);\n"
        self.assertEqual(written(parse(text)), text)

    def test_parts_and_top(self):
        self.assertEqual(written(("description", (), "c", ())), "top c();\n")
        self.assertEqual(written(("description", (), "c", (-3,))), "top c(-3);\n")
        self.assertEqual(
            written(("description", (("part", "a", (), ()), ("part", "b", ("V", "W"), ())), "b", (1, -9999999, 0))),
            "part a() {\n}\npart b(V, W) {\n}\ntop b(1, -9999999, 0);\n")

    def test_words(self):
        self.assertEqual(item_text(("in", "a", 4)), "  in a: 4;\n")
        self.assertEqual(item_text(("out", "s", "W", A)), "  out s: W = a;\n")
        self.assertEqual(item_text(("let", ("x", ()), 1, A)), "  let x: 1 = a;\n")
        self.assertEqual(item_text(("let", ("x", (1, "i")), 1, A)), "  let x[1, i]: 1 = a;\n")
        self.assertEqual(item_text(("reg", ("x", (("add", "i", 1),)), "W", -7, A)),
                         "  reg x[(i + 1)]: W from -7 = a;\n")

    def test_memories(self):
        self.assertEqual(item_text(("mem", ("m", ()), 4, 8, ())), "  mem m: 4 of 8 {\n  }\n")
        self.assertEqual(
            item_text(("mem", ("m", (0,)), "W", ("mul", 2, 3), ((A, B, ("op", "not", (A,))), (B, B, B)))),
            "  mem m[0]: W of (2 * 3) {\n    when a at b put not(a);\n    when b at b put b;\n  }\n")
        self.assertEqual(
            item_text(("mem", ("m", ()), 1, 1, ((("op", "and", (A, B)), ("op", "add", (A, B)), A),))),
            "  mem m: 1 of 1 {\n    when (a & b) at (a + b) put a;\n  }\n")

    def test_uses(self):
        self.assertEqual(item_text(("use", ("u", ()), "p", (), ())), "  use u = p() {\n  }\n")
        self.assertEqual(
            item_text(("use", ("u", ("i",)), "half", (4, ("div", "W", 2)), (("a", A), ("b", ("op", "odd", (B,)))))),
            "  use u[i] = half(4, (W div 2)) {\n    a = a;\n    b = odd(b);\n  }\n")

    def test_machines(self):
        self.assertEqual(item_text(("machine", ("m", ()), ("one",), ())), "  machine m {\n    one;\n  }\n")
        self.assertEqual(
            item_text(("machine", ("m", (2,)), ("red", "green"), (("red", "green", A), ("green", "red", (
                "op", "same", (A, B)))))),
            "  machine m[2] {\n    red, green;\n    red to green when a;\n    green to red when (a == b);\n  }\n")

    def test_blocks(self):
        self.assertEqual(item_text(("rows", "i", 0, ("sub", "N", 1), ())), "  rows i from 0 to (N - 1) {\n  }\n")
        self.assertEqual(item_text(("if", ("less", "W", 3), (), ())), "  if (W < 3) {\n  } else {\n  }\n")
        self.assertEqual(item_text(("if", "W", (("in", "a", 1),), ())), "  if W {\n    in a: 1;\n  } else {\n  }\n")
        deep = ("rows", "i", 0, 2, (
            ("if", ("bits", "i"), (("mem", ("m", ("i",)), 1, 2, ((A, A, A),)),),
             (("machine", ("f", ()), ("x", "y"), (("x", "y", A),)), ("use", ("u", ()), "p", (), (("a", A),)))),
            ("in", "a", 1)))
        self.assertEqual(item_text(deep, ("in", "b", 2)), (
            "  rows i from 0 to 2 {\n"
            "    if bits(i) {\n"
            "      mem m[i]: 1 of 2 {\n"
            "        when a at a put a;\n"
            "      }\n"
            "    } else {\n"
            "      machine f {\n"
            "        x, y;\n"
            "        x to y when a;\n"
            "      }\n"
            "      use u = p() {\n"
            "        a = a;\n"
            "      }\n"
            "    }\n"
            "    in a: 1;\n"
            "  }\n"
            "  in b: 2;\n"))

    def test_amounts(self):
        self.assertEqual(amount_text(0), "0")
        self.assertEqual(amount_text(-12), "-12")
        self.assertEqual(amount_text("W"), "W")
        for op, sign in (("add", "+"), ("sub", "-"), ("mul", "*"), ("div", "div"), ("mod", "mod"), ("max", "max"),
                         ("min", "min"), ("less", "<"), ("same", "==")):
            self.assertEqual(amount_text((op, "W", -1)), f"(W {sign} -1)")
            self.assertEqual(amount_text((op, (op, 1, 2), (op, "V", "W"))), f"((1 {sign} 2) {sign} (V {sign} W))")
        self.assertEqual(amount_text(("bits", 7)), "bits(7)")
        self.assertEqual(amount_text(("bits", ("bits", ("sub", "W", 1)))), "bits(bits((W - 1)))")
        self.assertEqual(amount_text(("div", ("bits", 1), ("mod", 3, 2))), "(bits(1) div (3 mod 2))")

    def test_expressions(self):
        self.assertEqual(expression_text(("word", -3, ("add", "W", 1))), "word(-3, (W + 1))")
        self.assertEqual(expression_text(A), "a")
        self.assertEqual(expression_text(("ref", ("a", (-1, "i", ("bits", 2))))), "a[-1, i, bits(2)]")
        self.assertEqual(expression_text(("port", ("u", ()), "s")), "u.s")
        self.assertEqual(expression_text(("port", ("u", (1, 2)), "s")), "u[1, 2].s")
        self.assertEqual(expression_text(("is", ("m", ()), "red")), "m is red")
        self.assertEqual(expression_text(("is", ("m", ("i",)), "red")), "m[i] is red")
        self.assertEqual(expression_text(("cut", A, 1, ("sub", "W", 1))), "cut(a, 1, (W - 1))")
        self.assertEqual(expression_text(("join", (A,))), "join(a)")
        self.assertEqual(expression_text(("join", (A, B, A))), "join(a, b, a)")
        self.assertEqual(expression_text(("choose", A, B, A)), "choose(a, b, a)")
        self.assertEqual(expression_text(("choose", ("is", ("m", ()), "x"), ("port", ("u", ()), "s"), A)),
                         "choose(m is x, u.s, a)")
        self.assertEqual(expression_text(("read", ("m", ()), A)), "read(m, a)")
        self.assertEqual(expression_text(("read", ("m", (0,)), ("cut", A, 0, 1))), "read(m[0], cut(a, 0, 1))")

    def test_signs(self):
        for name, sign in (("and", "&"), ("or", "|"), ("xor", "^"), ("add", "+"), ("sub", "-"), ("mul", "*"),
                           ("same", "=="), ("less", "<"), ("shl", "<<"), ("shr", ">>")):
            self.assertEqual(expression_text(("op", name, (A, B))), f"(a {sign} b)")
        for name in ("not", "any", "all", "odd"):
            self.assertEqual(expression_text(("op", name, (A,))), f"{name}(a)")
            self.assertEqual(expression_text(("op", name, (("op", "or", (A, ("op", name, (B,)))),))),
                             f"{name}((a | {name}(b)))")

    def test_reading_gives_the_description_again(self):
        for seed in range(300):
            description = made(seed)
            text = written(description)
            self.assertEqual(parse(text), description)
            self.assertEqual(written(parse(text)), text)
            self.assertTrue(all(len(line) > 0 and not line.endswith(" ") for line in text.split("\n")[:-1]))

    def test_faulty_descriptions_are_written_too(self):
        x = ("word", 9999999, -9999999)
        parts = (("part", "c", ("a",), (("in", "a", 99), ("in", "a", -9999999), (
            "machine", ("m", ()), ("x", "x"), (("y", "z", x),)), ("use", ("u", ()), "none", (), (("q", x), ("q", x))))),)
        description = ("description", parts, "d", (9999999,))
        self.assertEqual(parse(written(description)), description)

    def test_arguments_stay(self):
        description = made(7)
        kept = copy.deepcopy(description)
        self.assertEqual(written(description), written(description))
        self.assertEqual(description, kept)

    def test_deeply_nested(self):
        x = A
        e = 1
        for _ in range(30):
            x = ("op", "not", (x,))
            e = ("add", e, 1)
        items = (("out", "s", e, x),)
        for _ in range(20):
            items = (("if", 1, (), items),)
        description = ("description", (("part", "c", (), items),), "c", ())
        self.assertEqual(parse(written(description)), description)


if __name__ == "__main__":
    unittest.main()
