"""Point 04.3 and kinds.py of the interface."""

import unittest

from cellcloth.errors import KindError
from cellcloth.kinds import check_kinds, width_of
from cellcloth.layout import laid_out
from cellcloth.parsing import parse
from making import made

# Something of each kind, with widths that tell them apart.
AROUND = """
part p(W) { in a: W; in b: 3; out s: W = a; out t: 3 = b; let h: 2 = word(0, 2); }
part none() { }
part c() {
  in i1: 1; in i4: 4; in i9: 9; out o4: 4 = i4; let w4: 4 = i4; let w1[2]: 1 = i1; let w3: 3 = word(0, 3);
  reg r4: 4 from 0 = i4; mem m5: 5 of 8 { } mem m6[1]: 6 of 2 { }
  machine f { red, green; } machine g[3] { blue; }
  use u = p(4) { a = i4; b = w3; } use v[0] = p(7) { b = w3; a = word(1, 7); }
  %s
}
top c();
"""

GOOD = [
    ("i1", 1), ("i4", 4), ("w4", 4), ("w1[2]", 1), ("r4", 4), ("word(77, 3)", 3), ("u.s", 4), ("u.t", 3),
    ("v[0].s", 7), ("read(m5, i1)", 5), ("read(m5, i9)", 5), ("read(m6[1], read(m5, i4))", 6),
    ("f is red", 1), ("f is green", 1), ("g[3] is blue", 1),
    ("(i4 & w4)", 4), ("(i4 | w4)", 4), ("(i4 ^ w4)", 4), ("(i4 + w4)", 4), ("(i4 - w4)", 4), ("(i4 * w4)", 4),
    ("(i4 == w4)", 1), ("(i4 < w4)", 1), ("(i4 << i9)", 4), ("(i4 >> i1)", 4), ("(i9 << i4)", 9), ("(i9 >> i9)", 9),
    ("not(i4)", 4), ("any(i4)", 1), ("all(i4)", 1), ("odd(i4)", 1),
    ("cut(i4, 0, 4)", 4), ("cut(i4, 3, 1)", 1), ("cut(i9, 2, 6)", 6), ("join(i4)", 4), ("join(i4, i1, r4)", 9),
    ("join(i9, i4, w3)", 16), ("choose(i1, i4, r4)", 4), ("choose(f is red, i9, i9)", 9),
    ("choose((i4 == w4), any(i9), i1)", 1), ("(choose(i1, i4, w4) + cut(i9, 5, 4))", 4),
]

BAD = [
    "nope", "w4[0]", "w1", "w1[3]", "w1[2, 2]", "o4", "m5", "f", "u", "v[0]", "m6[1]",
    "u.a", "u.h", "u.nope", "v.s", "v[1].s", "i4.s", "m5.s", "f.red", "nope.s", "w4.s",
    "read(w4, i1)", "read(r4, i1)", "read(m6, i1)", "read(nope, i1)", "read(u, i1)", "read(f, i1)",
    "read(m5, nope)", "read(m5, (i4 + i1))", "read(m5, m5)",
    "f is blue", "g is blue", "g[3] is red", "w4 is red", "nope is red", "m5 is red", "u is red",
    "(i4 & i1)", "(i4 | i9)", "(i4 ^ w3)", "(i4 + i9)", "(i9 - i4)", "(i4 * w3)", "(i4 == w3)", "(w3 < i4)",
    "(i4 << nope)", "(nope << i4)", "(i4 >> (i4 & i1))", "(u.s + u.t)",
    "not(nope)", "any((i4 + i1))", "cut(i4, 4, 1)", "cut(i4, 1, 4)", "cut(i4, 0, 5)", "cut(i4, 16, 1)",
    "cut(nope, 0, 1)", "join(i9, i4, r4)", "join(i9, i9)", "join(i4, nope)", "choose(i4, i4, i4)",
    "choose(i1, i4, w3)", "choose(i1, w3, i4)", "choose(nope, i4, i4)", "choose(i1, nope, i4)",
    "choose(i1, i4, nope)", "choose(w3, i1, i1)",
]


def place_of(items):
    return laid_out(parse(AROUND % items))


class KindsTest(unittest.TestCase):
    def good(self, items):
        self.assertIsNone(check_kinds(place_of(items)), items)

    def bad(self, name, items):
        with self.assertRaises(KindError) as caught:
            check_kinds(place_of(items))
        self.assertEqual(caught.exception.place, name, items)

    def test_without_faults(self):
        self.good("")
        for seed in range(60):
            self.assertIsNone(check_kinds(laid_out(made(seed))))
        self.assertIsNone(check_kinds(laid_out(parse("part c() { } top c();"))))

    def test_good_expressions(self):
        for text, width in GOOD:
            self.good(f"let x: {width} = {text};")
            place = place_of(f"let x: {width} = {text};")
            self.assertEqual(width_of(place, place.named[("x", ())].value), width)
            for other in (width - 1, width + 1):
                if 1 <= other <= 16:
                    self.bad("x", f"let x: {other} = {text};")

    def test_widths_in_places(self):
        place = place_of("")
        inner = place.named[("v", (0,))].inner
        self.assertEqual(width_of(inner, ("ref", ("a", ()))), 7)
        self.assertEqual(width_of(inner, ("ref", ("h", ()))), 2)
        self.assertEqual(width_of(place, ("port", ("v", (0,)), "s")), 7)

    def test_widths_of_things(self):
        for seed in range(60):
            place = laid_out(made(seed))
            for thing in place.things:
                if thing.value is not None:
                    self.assertEqual(width_of(place, thing.value), thing.width)

    def test_bad_expressions(self):
        for text in BAD:
            for width in (1, 4, 5):
                self.bad("x", f"let x: {width} = {text};")

    def test_numbers_of_arguments(self):
        place = place_of("let x: 4 = i4; let y: 4 = i4;")
        thing = place.named[("x", ())]
        i4 = ("ref", ("i4", ()))
        for sign in ("not", "add", "shl", "same", "any"):
            for many in (0, 1, 2, 3):
                thing.width = 1 if sign in ("same", "any") else 4
                thing.value = ("op", sign, (i4,) * many)
                if many == (1 if sign in ("not", "any") else 2):
                    self.assertIsNone(check_kinds(place))
                    continue
                with self.assertRaises(KindError) as caught:
                    check_kinds(place)
                self.assertEqual(caught.exception.place, "x")

    def test_joins_of_nothing(self):
        nothing = ("join", ())
        for x in (nothing, ("op", "any", (nothing,)), ("op", "same", (nothing, nothing)),
                  ("join", (nothing, ("word", 0, 1)))):
            description = ("description", (("part", "c", (), (("out", "s", 1, x),)),), "c", ())
            with self.assertRaises(KindError) as caught:
                check_kinds(laid_out(description))
            self.assertEqual(caught.exception.place, "s")

    def test_many_joined(self):
        self.good("let x: 16 = join(" + ", ".join(["i1"] * 16) + ");")
        self.bad("x", "let x: 16 = join(" + ", ".join(["i1"] * 17) + ");")
        self.bad("x", "let x: 1 = cut(join(" + ", ".join(["i1"] * 17) + "), 0, 1);")

    def test_each_kind_of_thing(self):
        self.good("out x: 4 = i4;")
        self.bad("x", "out x: 4 = i9;")
        self.good("reg x[1]: 9 from 3 = i9;")
        self.bad("x.1", "reg x[1]: 9 from 3 = i4;")
        self.bad("x.1", "reg x[1]: 9 from 3 = nope;")
        self.good("reg x: 4 from 0 = x;")
        self.good("let x: 4 = x;")

    def test_memories(self):
        self.good("mem x: 4 of 3 { when i1 at i9 put i4; when any(i9) at i1 put r4; }")
        for address in ("i1", "i4", "i9", "word(0, 16)", "read(x, i4)"):
            self.good("mem x: 4 of 3 { when i1 at " + address + " put i4; }")
        self.bad("x", "mem x: 4 of 3 { when i4 at i9 put i4; }")
        self.bad("x", "mem x: 4 of 3 { when i1 at i9 put i9; }")
        self.bad("x", "mem x: 4 of 3 { when i1 at nope put i4; }")
        self.bad("x", "mem x: 4 of 3 { when i1 at i1 put i4; when i1 at (i4 + i1) put i4; }")
        self.bad("x", "mem x: 4 of 3 { when nope at i1 put i4; }")
        self.bad("x", "mem x: 4 of 3 { when i1 at i1 put nope; }")

    def test_machines(self):
        self.good("machine x { a, b; a to b when i1; b to a when x is b; }")
        self.bad("x", "machine x { a, b; a to b when i4; }")
        self.bad("x", "machine x { a, b; a to b when i1; b to a when nope; }")
        self.bad("x", "machine x { a, b; a to b when x is c; }")

    def test_ports(self):
        self.good("use x = p(2) { a = cut(i4, 0, 2); b = w3; }")
        self.good("use x = p(2) { b = w3; a = cut(i4, 0, 2); }")
        self.good("use x = p(4) { a = x.s; b = x.t; }")
        for ports in ("", "a = i4;", "b = w3;", "a = i4; b = w3; a = i4;", "a = i4; a = i4; b = w3;",
                      "a = i4; b = w3; s = i4;", "a = i4; s = w3;", "a = i4; b = w3; h = w3;",
                      "a = i4; b = w3; nope = i4;", "nope = i4;", "a = i9; b = w3;", "a = i4; b = i4;",
                      "a = nope; b = w3;", "a = a; b = w3;", "a = i4; b = x.s;"):
            self.bad("x", "use x = p(4) { " + ports + " }")
        self.good("use x = none() { }")
        self.bad("x", "use x = none() { a = i4; }")

    def test_names_of_places_within(self):
        text = ("part q() { in a: 2; let b: 3 = a; } part p() { in a: 2; use u[1] = q() { a = a; } } "
                "part c() { in a: 2; use v = p() { a = a; } } top c();")
        with self.assertRaises(KindError) as caught:
            check_kinds(laid_out(parse(text)))
        self.assertEqual(caught.exception.place, "v.u.1.b")

    def test_names_do_not_reach_into_other_places(self):
        for items in ("let x: 4 = h;", "let x: 4 = a;"):
            self.bad("x", items)
        text = "part p() { out s: 1 = e; } part c() { in e: 1; use u = p() { } } top c();"
        with self.assertRaises(KindError) as caught:
            check_kinds(laid_out(parse(text)))
        self.assertEqual(caught.exception.place, "u.s")

    def test_the_first_in_order(self):
        self.bad("x", "let x: 4 = nope; let y: 4 = nope;")
        self.bad("y", "let z: 4 = i4; let y: 4 = nope; let x: 4 = nope;")
        self.bad("y", "rows k from 0 to 1 { let y: 4 = i9; } out x: 4 = nope;")
        # A place of a part comes ahead of its inner things, and these ahead of what follows it.
        text = ("part p() { in a: 1; let b: 1 = nope; } part q() { use t = p() { a = word(0, 1); } } "
                "part c() { in e: 1; %s } top c();")
        for items, name in (("use u = p() { } let x: 1 = nope;", "u"),
                            ("use u = p() { a = e; } let x: 1 = nope;", "u.b"),
                            ("let x: 1 = nope; use u = p() { }", "x"),
                            ("use v = q() { } use u = p() { }", "v.t.b"),
                            ("use v = q() { a = e; } use u = p() { }", "v")):
            with self.assertRaises(KindError) as caught:
                check_kinds(laid_out(parse(text % items)))
            self.assertEqual(caught.exception.place, name)


if __name__ == "__main__":
    unittest.main()
