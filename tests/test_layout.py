"""Points 02.5, 04.1 and 04.2, and layout.py of the interface."""

import copy
import unittest

from cellcloth.errors import KindError, LimitError
from cellcloth.layout import Place, Thing, laid_out
from cellcloth.parsing import parse

ATTRIBUTES = ("width", "start", "depth", "value", "writes", "inner", "ports", "states", "moves")


def circuit(text, top="c()"):
    return laid_out(parse(text + "\ntop " + top + ";"))


def alone(items):
    """The place of a circuit with these items, next to a part p with an input and an output."""
    return circuit("part p(W) { in a: W; out s: W = a; } part c() { " + items + " }")


def all_things(place):
    found = []
    for thing in place.things:
        found.append(thing)
        if thing.kind == "use":
            found.extend(all_things(thing.inner))
    return found


def names(place):
    return [thing.name for thing in all_things(place)]


def told(thing):
    """What a thing tells besides its names, without what is None."""
    found = {key: getattr(thing, key) for key in ATTRIBUTES}
    return {key: value for key, value in found.items() if value is not None}


class LayoutTest(unittest.TestCase):
    def kind_error(self, place, text, top="c()"):
        with self.assertRaises(KindError) as caught:
            circuit(text, top)
        self.assertEqual(caught.exception.place, place, text)

    def limit_error(self, kind, text, top="c()"):
        with self.assertRaises(LimitError) as caught:
            circuit(text, top)
        self.assertEqual(caught.exception.kind, kind, text)

    def item_kind(self, place, items):
        self.kind_error(place, "part p(W) { in a: W; out s: W = a; } part c() { " + items + " }")

    def item_limit(self, kind, items):
        self.limit_error(kind, "part p(W) { in a: W; out s: W = a; } part c() { " + items + " }")


class ThingsTest(LayoutTest):
    def test_the_circuit(self):
        place = circuit("part b() { } part c(W) { }", "c(3)")
        self.assertIs(type(place), Place)
        self.assertEqual((place.path, place.part, place.things, place.named), ("", "c", [], {}))

    def test_attributes_of_each_kind(self):
        place = alone(
            "in a: (1 + 1); out s: 2 = a; let w[1, (1 + 1)]: 3 = word((2 * 4), (1 + 2)); reg r[0]: 4 from (8 + 9) = q;"
            "mem m: 5 of (2 * 3) { when a at s put r[(0 + 0)]; when b at a put a; }"
            "use u[7] = p((2 + 2)) { a = x; b = cut(a, (1 - 1), 2); }"
            "machine f { x, y; x to y when a; y to y when word(0, (1 max 1)); }")
        kinds = [(thing.kind, thing.name, thing.short) for thing in place.things]
        self.assertEqual(kinds, [
            ("in", "a", "a"), ("out", "s", "s"), ("let", "w.1.2", "w"), ("reg", "r.0", "r"), ("mem", "m", "m"),
            ("use", "u.7", "u"), ("machine", "f", "f")])
        self.assertEqual([type(thing) for thing in place.things], [Thing] * 7)
        a, s, w, r, m, u, f = place.things
        x = ("ref", ("a", ()))
        self.assertEqual(told(a), {"width": 2})
        self.assertEqual(told(s), {"width": 2, "value": x})
        self.assertEqual(told(w), {"width": 3, "value": ("word", 8, 3)})
        self.assertEqual(told(r), {"width": 4, "start": 1, "value": ("ref", ("q", ()))})
        self.assertEqual(told(m).keys(), {"width", "depth", "writes"})
        self.assertEqual((m.width, m.depth), (5, 6))
        self.assertIn(type(m.writes), (list, tuple))
        self.assertEqual([tuple(write) for write in m.writes], [
            (x, ("ref", ("s", ())), ("ref", ("r", (0,)))), (("ref", ("b", ())), x, x)])
        self.assertEqual(told(u).keys(), {"inner", "ports"})
        self.assertEqual(u.ports, [("a", ("ref", ("x", ()))), ("b", ("cut", x, 0, 2))])
        self.assertIs(type(u.ports), list)
        self.assertEqual(told(f).keys() - {"width"}, {"states", "moves"})
        self.assertEqual(list(f.states), ["x", "y"])
        self.assertEqual([tuple(move) for move in f.moves], [("x", "y", x), ("y", "y", ("word", 0, 1))])

    def test_named(self):
        place = alone("in a: 2; let a[0]: 1 = x; let a[0, 1]: 1 = x; let a[-1]: 1 = x; use u[(1 + 1)] = p(3) { }")
        self.assertEqual(list(place.named), [("a", ()), ("a", (0,)), ("a", (0, 1)), ("a", (-1,)), ("u", (2,))])
        self.assertEqual(list(place.named.values()), place.things)
        inner = place.things[-1].inner
        self.assertEqual(list(inner.named), [("a", ()), ("s", ())])
        self.assertEqual(inner.named[("s", ())].name, "u.2.s")
        self.assertEqual([thing.name for thing in place.things], ["a", "a.0", "a.0.1", "a.-1", "u.2"])

    def test_places_in_places(self):
        place = circuit(
            "part p(W) { in a: W; out s: W = a; }"
            "part q(V, W) { use u[V] = p((W + 1)) { a = x; } rows i from 0 to V { reg r[i, W]: 1 from 0 = x; } }"
            "part c() { in e: 1; rows i from 1 to 3 { use v[i, 5] = q(i, (2 * i)) { } let e[i]: 1 = e; } }")
        self.assertEqual(names(place), [
            "e", "v.1.5", "v.1.5.u.1", "v.1.5.u.1.a", "v.1.5.u.1.s", "v.1.5.r.0.2", "e.1",
            "v.2.5", "v.2.5.u.2", "v.2.5.u.2.a", "v.2.5.u.2.s", "v.2.5.r.0.4", "v.2.5.r.1.4", "e.2"])
        first = place.named[("v", (1, 5))].inner
        self.assertEqual((first.path, first.part), ("v.1.5", "q"))
        inner = first.named[("u", (1,))].inner
        self.assertEqual((inner.path, inner.part), ("v.1.5.u.1", "p"))
        self.assertEqual(inner.named[("a", ())].width, 3)
        self.assertEqual(place.named[("v", (2, 5))].inner.named[("u", (2,))].inner.named[("a", ())].width, 5)
        self.assertEqual([thing.short for thing in first.things], ["u", "r"])

    def test_expressions(self):
        place = circuit(
            "part c(W) { rows i from 2 to 3 { let x[i]: 1 = choose(a[i, (i - 1)], join(u[i].s, m is red, m[W] is red),"
            " cut((a + not(read(k[(W * i)], b))), (i - 2), W)); } let y: 1 = word(-5, W); let z: 1 = word(99, 3); }", "c(4)")
        self.assertEqual(place.things[0].value, (
            "choose", ("ref", ("a", (2, 1))),
            ("join", (("port", ("u", (2,)), "s"), ("is", ("m", ()), "red"), ("is", ("m", (4,)), "red"))),
            ("cut", ("op", "add", (("ref", ("a", ())), ("op", "not", (
                ("read", ("k", (8,)), ("ref", ("b", ()))),)))), 0, 4)))
        self.assertEqual(place.things[1].value, ("word", -5, 4))
        self.assertEqual(place.things[2].value, ("word", 99, 3))

    def test_starts(self):
        for start, width, told_start in ((0, 1, 0), (1, 1, 1), (2, 1, 0), (-1, 1, 1), (-1, 16, 65535),
                                         (65536, 16, 0), (1000000, 16, 1000000 % 65536), (-9, 3, 7)):
            self.assertEqual(alone(f"reg r: {width} from {start} = r;").things[0].start, told_start)

    def test_rows(self):
        self.assertEqual(names(alone("rows i from 0 to 3 { let a[i]: 1 = x; rows i from 5 to 5 { in b: 1; } }")),
                         ["a.0", "a.1", "a.2"])
        self.assertEqual(alone("rows i from 3 to 3 { in a: 0; }").things, [])
        self.assertEqual(alone("rows i from 3 to -3 { in a: 0; }").things, [])
        self.assertEqual(names(alone("rows i from -2 to 1 { let a[i]: 1 = x; }")), ["a.-2", "a.-1", "a.0"])

    def test_counters_hide(self):
        place = circuit(
            "part c(i, W) { let a[i]: 1 = x; rows i from 7 to 9 { let b[i]: 1 = x; rows W from 0 to i {"
            " if (W == 6) { let d[i, W]: 1 = x; } else { } rows i from i to (i + 1) { if (W < 1) {"
            " let e[i, W]: 1 = x; } else { } } } let f[i, W]: 1 = x; } let g[i, W]: 1 = x; }", "c(2, 3)")
        self.assertEqual(names(place), [
            "a.2", "b.7", "e.7.0", "d.7.6", "f.7.3", "b.8", "e.8.0", "d.8.6", "f.8.3", "g.2.3"])

    def test_names_from_around_do_not_count_within(self):
        self.kind_error("u.1",
                        "part p() { let a[W]: 1 = x; } part c() { rows W from 1 to 2 { use u[W] = p() { } } }")
        self.kind_error("u.1.a", "part p() { in a: W; } part c() { rows W from 1 to 2 { use u[W] = p() { } } }")

    def test_choices(self):
        self.assertEqual(names(alone("if 1 { in a: 1; } else { in b: 0; }")), ["a"])
        self.assertEqual(names(alone("if -1 { in a: 1; } else { in b: 0; }")), ["a"])
        self.assertEqual(names(alone("if 0 { in a: 0; } else { in b: 1; in d: 1; }")), ["b", "d"])
        self.assertEqual(names(alone("if (1 < 0) { use u = nope() { } } else { }")), [])

    def test_a_part_that_holds_itself(self):
        text = "part c(N) { in a: 1; if (0 < N) { use u = c((N - 1)) { a = a; } } else { } }"
        self.assertEqual(names(circuit(text, "c(2)")), ["a", "u", "u.a", "u.u", "u.u.a"])

    def test_arguments_stay_and_calls_are_equal(self):
        description = parse("part p(W) { in a: W; } part c(W) { rows i from 0 to W { use u[i] = p((i + 1)) {"
                            " a = word(i, (i + 1)); } } } top c(3);")
        kept = copy.deepcopy(description)
        first = laid_out(description)
        second = laid_out(description)
        self.assertEqual(description, kept)
        self.assertEqual(names(first), names(second))
        self.assertIsNot(first, second)
        self.assertEqual([(thing.width, thing.ports) for thing in all_things(first)],
                         [(thing.width, thing.ports) for thing in all_things(second)])


class CircuitErrorsTest(LayoutTest):
    def test_its_part(self):
        self.kind_error("", "part c() { in a: 0; }", "d()")
        self.kind_error("", "", "c()")

    def test_its_parameters(self):
        self.kind_error("", "part c(W) { in a: 0; }", "c()")
        self.kind_error("", "part c(W) { in a: 0; }", "c(1, 2)")
        self.kind_error("", "part c() { in a: 0; }", "c(1)")
        self.limit_error("amount", "part c(W) { in a: 0; }", "c(1000001)")
        self.limit_error("amount", "part c(W) { }", "c(-1000001)")
        self.limit_error("amount", "part c(V, W) { }", "c(1, 9999999)")
        self.kind_error("", "part c(V, W) { }", "c(9999999)")
        self.assertEqual(circuit("part c(V, W) { }", "c(1000000, -1000000)").things, [])


class ThingErrorsTest(LayoutTest):
    def test_double_names(self):
        self.item_kind("a", "in a: 1; in a: 0;")
        self.item_kind("a", "in a: 1; let a: 1 = x;")
        self.item_kind("a.1", "let a[1]: 1 = x; let a: 1 = x; reg a[(0 + 1)]: 0 from 0 = x;")
        self.item_kind("m", "machine m { a; } use m = nope() { }")
        self.item_kind("a", "rows i from 0 to 2 { in a: 1; }")
        self.kind_error("u.0.a", "part p() { in a: 1; out a: 1 = x; } part c() { use u[0] = p() { } }")
        self.assertEqual(names(alone("let a: 1 = x; let a[0]: 1 = x; let a[0, 0]: 1 = x;")), ["a", "a.0", "a.0.0"])

    def test_widths(self):
        for width in (0, 17, -1, 1000000):
            for item in ("in a: {};", "out a: {} = x;", "let a: {} = x;", "reg a: {} from 0 = x;", "mem a: {} of 1 {{ }}"):
                self.item_kind("a", item.format(width))
        for width in (1, 16):
            for item in ("in a: {};", "out a: {} = x;", "let a: {} = x;", "reg a: {} from 0 = x;", "mem a: {} of 1 {{ }}"):
                self.assertEqual(alone(item.format(width)).things[0].width, width)

    def test_depths(self):
        for depth in (0, 65, -1):
            self.item_kind("m", f"mem m: 1 of {depth} {{ }}")
        for depth in (1, 64):
            self.assertEqual(alone(f"mem m: 1 of {depth} {{ }}").things[0].depth, depth)

    def test_widths_and_low_bits_in_expressions(self):
        for width in (0, 17, -1):
            self.item_kind("a", f"let a: 1 = word(0, {width});")
            self.item_kind("a", f"let a: 1 = not(cut(a, 0, {width}));")
        for low in (-1, 17):
            self.item_kind("a", f"let a: 1 = join(a, cut(a, {low}, 1));")
        self.assertEqual(alone("let a: 1 = cut(word(0, 16), 16, 16);").things[0].value[2:], (16, 16))
        self.assertEqual(alone("let a: 1 = cut(word(0, 1), 0, 1);").things[0].value[2:], (0, 1))

    def test_expressions_of_all_things(self):
        for x in ("word(0, 0)", "word(0, W)", "a[W]", "u[W].s", "m[W] is red", "read(m[W], a)", "read(m, a[W])",
                  "choose(a[W], b, c)", "choose(a, b[W], c)", "choose(a, b, c[W])", "(a & b[W])", "(b[W] & a)",
                  "odd(a[W])", "join(a, b[W], c)", "cut(a[W], 0, 1)", "cut(a, W, 1)", "cut(a, 0, W)",
                  "word(W, 1)", "a[0, (1 div 0)]", "a[bits(-1)]"):
            for item in ("out g: 1 = {};", "let g: 1 = {};", "reg g: 1 from 0 = {};",
                         "mem g: 1 of 1 {{ when {} at x put x; }}", "mem g: 1 of 1 {{ when x at {} put x; }}",
                         "mem g: 1 of 1 {{ when x at x put {}; }}", "use g = p(1) {{ a = x; b = {}; }}",
                         "machine g {{ a; a to a when x; a to a when {}; }}"):
                self.item_kind("g", item.format(x))

    def test_amounts_of_things(self):
        for e in ("W", "(1 div 0)", "(1 mod 0)", "bits(-1)"):
            for item in ("in g: {};", "out g: {} = x;", "let g: {} = x;", "reg g: {} from 0 = x;",
                         "reg g: 1 from {} = x;", "mem g: {} of 1 {{ }}", "mem g: 1 of {} {{ }}",
                         "use g = p({}) {{ }}"):
                self.item_kind("g", item.format(e))

    def test_amounts_in_places(self):
        text = "part p(V) {{ {} }} part c() {{ use u[3] = p(1) {{ }} }}"
        self.kind_error("u.3.g", text.format("let g: W = x;"))
        self.kind_error("u.3.g.5", text.format("let g[5]: 1 = x[W];"))
        self.kind_error("u.3", text.format("let g[W]: 1 = x;"))
        self.kind_error("u.3", text.format("rows i from W to 1 { }"))
        self.kind_error("u.3", text.format("rows i from 1 to W { }"))
        self.kind_error("u.3", text.format("if W { } else { }"))

    def test_amounts_of_the_circuit(self):
        for item in ("rows i from W to 1 { }", "rows i from 1 to W { }", "rows i from i to 1 { }",
                     "if W { } else { }", "if (1 div 0) { } else { }", "let g[W]: 1 = x;", "let g[0, bits(-1)]: 1 = x;",
                     "reg g[W]: 0 from 0 = x;", "mem g[W]: 0 of 0 { }", "use g[W] = nope() { }", "machine g[W] { a, a; }"):
            self.item_kind("", item)

    def test_limits_of_amounts(self):
        for item in ("in a: 1000001;", "let a[1000001]: 1 = x;", "let a: 1 = x[(1000000 + 1)];",
                     "rows i from 0 to 1000001 { }", "rows i from -1000001 to 0 { }", "if 1000001 { } else { }",
                     "use u = p(1000001) { }", "reg a: 1 from 1000001 = x;", "mem m: 1 of 1000001 { }",
                     "let a: 1 = word(1000001, 0);", "let a: 1 = cut(x, 1000001, 0);"):
            self.item_limit("amount", item)

    def test_parts_and_parameters(self):
        self.item_kind("u", "use u = nope() { }")
        self.item_kind("u.2", "use u[2] = nope(1) { }")
        self.item_kind("u", "use u = p() { }")
        self.item_kind("u", "use u = p(1, 2) { }")
        self.kind_error("v.u", "part q() { use u = nope() { } } part c() { use v = q() { } }")

    def test_machines(self):
        self.item_kind("m", "machine m { a, b, a; }")
        self.item_kind("m.1", "machine m[1] { a, b; a to d when x; }")
        self.item_kind("m", "machine m { a, b; d to a when x; }")
        states = [f"s{k}" for k in range(65)]
        self.item_kind("m", "machine m { " + ", ".join(states) + "; }")
        self.assertEqual(len(alone("machine m { " + ", ".join(states[:64]) + "; }").things[0].states), 64)
        self.item_kind("m", "machine m { a; " + "a to a when x; " * 65 + "}")
        self.assertEqual(len(alone("machine m { a; " + "a to a when x; " * 64 + "}").things[0].moves), 64)


class LimitsTest(LayoutTest):
    def test_depth(self):
        text = "part c(N) {{ if (0 < N) {{ use u = c((N - 1)) {{ {} }} }} else {{ }} }}"
        place = circuit(text.format(""), "c(24)")
        self.assertEqual(len(names(place)), 24)
        self.assertEqual(names(place)[-1], ".".join(["u"] * 24))
        self.limit_error("depth", text.format(""), "c(25)")
        self.limit_error("depth", text.format(""), "c(1000)")
        # It comes when the inner items would come: the port of the place ahead of it.
        self.kind_error(".".join(["u"] * 25), text.format("a = x[(1 div (N - 1))];"), "c(25)")

    def test_depth_without_items(self):
        parts = ["part p0() { }"]
        for k in range(1, 26):
            parts.append(f"part p{k}() {{ use u = p{k - 1}() {{ }} }}")
        text = " ".join(parts)
        self.assertEqual(len(names(circuit(text, "p24()"))), 24)
        self.limit_error("depth", text, "p25()")

    def test_things(self):
        self.assertEqual(len(alone("rows i from 0 to 2000 { let a[i]: 1 = x; }").things), 2000)
        self.item_limit("things", "rows i from 0 to 2001 { let a[i]: 1 = x; }")
        self.item_limit("things", "rows i from 0 to 2000 { let a[i]: 1 = x; } in b: 0;")
        # All places count together, and each place of a part counts itself.
        self.assertEqual(len(names(alone("in e: 1; out f: 1 = x; rows i from 0 to 666 { use u[i] = p(1) { } }"))), 2000)
        self.item_limit("things", "in e: 1; out f: 1 = x; machine m { a; } rows i from 0 to 666 { use u[i] = p(1) { } }")

    def test_things_come_with_the_name(self):
        full = "rows i from 0 to 2000 { let a[i]: 1 = x; } "
        self.item_limit("things", full + "let a[5]: 1 = x;")
        self.item_limit("things", full + "let b: 0 = x;")
        self.item_limit("things", full + "use b = nope() { }")
        self.item_limit("things", full + "machine b { a, a; }")
        self.item_limit("things", full + "mem b: 0 of 0 { }")
        self.item_kind("", full + "let b[W]: 1 = x;")
        self.item_limit("amount", full + "let b[1000001]: 1 = x;")
        self.item_limit("rows", full + "rows i from 0 to 5000 { let b: 1 = x; }")

    def test_rows(self):
        self.assertEqual(alone("rows i from 0 to 4096 { }").things, [])
        self.assertEqual(alone("rows i from -2048 to 2048 { if (i == 9) { in a: 1; } else { } }").things[0].name, "a")
        self.item_limit("rows", "rows i from 0 to 4097 { }")
        self.item_limit("rows", "rows i from -1000000 to 1000000 { in a: 0; }")
        self.item_kind("", "rows i from 0 to (5000 div 0) { }")

    def test_deeply_nested(self):
        """Things that stand around one another up to the limits need no deep recursion."""
        x = "a"
        for _ in range(29):
            x = "not(" + x + ")"
        inner = "let w[N]: 1 = " + x + "; if (0 < N) { use u = c((N - 1)) { a = " + x + "; } } else { }"
        for _ in range(3):
            inner = "rows i from 0 to 1 { " + inner + " }"
        place = circuit("part c(N) { in a: 1; " + inner + " }", "c(24)")
        self.assertEqual(len(names(place)), 25 * 2 + 24)


class OrderTest(LayoutTest):
    def test_items_in_order(self):
        self.item_kind("a", "in a: 0; in b: 0;")
        self.item_kind("b", "in a: 1; in b: 0; use u = nope() { }")
        self.item_limit("rows", "rows i from 0 to 5000 { in a: 0; } in b: 0;")
        self.item_kind("b", "in b: 0; rows i from 0 to 5000 { }")
        self.item_kind("a.1", "rows i from 0 to 3 { let a[i]: (1 - i) = x; }")

    def test_into_a_place_at_once(self):
        text = "part p() { let a: 0 = x; } part c() { use u = p() { } in b: 0; }"
        self.kind_error("u.a", text)
        self.kind_error("b", "part p() { let a: 0 = x; } part c() { in b: 0; use u = p() { } }")
        self.kind_error("u.a", "part p() { let a: 0 = x; } part c() { use u = p() { } use u = p() { } }")

    def test_rows_amounts(self):
        self.item_limit("amount", "rows i from 1000001 to W { }")
        self.item_kind("", "rows i from W to 1000001 { }")

    def test_name_and_double_name(self):
        self.item_limit("amount", "let a: 1 = x; let a[1000001]: 0 = x;")
        self.item_kind("a", "let a: 1 = x; let a: 1000001 = x;")
        self.item_kind("a", "reg a: 0 from 1000001 = x;")
        self.item_kind("u", "let u: 1 = x; use u = p(1000001) { }")
        self.item_kind("m", "let m: 1 = x; machine m { a; a to a when x[1000001]; }")

    def test_amounts_from_left_to_right(self):
        self.item_limit("amount", "reg a: 1000001 from W = x;")
        self.item_kind("a", "reg a: W from 1000001 = x;")
        self.item_kind("a", "reg a: 17 from 1000001 = x;")
        self.item_limit("amount", "reg a: 1 from 1000001 = x[W];")
        self.item_kind("a", "reg a: 1 from W = x[1000001];")
        self.item_kind("m", "mem m: 17 of 1000001 { }")
        self.item_kind("m", "mem m: 1 of 65 { when x[1000001] at x put x; }")
        self.item_limit("amount", "mem m: 1 of 1000001 { when x[W] at x put x; }")

    def test_expressions_from_left_to_right(self):
        self.item_kind("a", "let a: 1 = (x[W] & x[1000001]);")
        self.item_limit("amount", "let a: 1 = (x[1000001] & x[W]);")
        self.item_kind("a", "let a: 1 = word(W, 1000001);")
        self.item_limit("amount", "let a: 1 = word(1000001, 0);")
        self.item_kind("a", "let a: 1 = cut(x, 17, 1000001);")
        self.item_limit("amount", "let a: 1 = cut(x[1000001], 17, 0);")
        self.item_kind("a", "let a: 1 = cut(x[W], 1000001, 0);")
        self.item_kind("a", "let a: 1 = choose(x, y[W], z[1000001]);")
        self.item_limit("amount", "let a: 1 = choose(x, y[1000001], z[W]);")
        self.item_kind("a", "let a: 1 = join(x, y[W], z[1000001]);")
        self.item_limit("amount", "let a: 1 = read(m[1000001], z[W]);")
        self.item_kind("a", "let a: 1 = read(m[W], z[1000001]);")
        self.item_limit("amount", "mem m: 1 of 1 { when x[1000001] at x[W] put x; }")
        self.item_kind("m", "mem m: 1 of 1 { when x at x[W] put x[1000001]; }")
        self.item_limit("amount", "mem m: 1 of 1 { when x at x put x[1000001]; when x[W] at x put x; }")

    def test_machines(self):
        self.item_kind("m", "machine m { a, a; a to a when x[1000001]; }")
        self.item_kind("m", "machine m { a; a to a when x[1000001]; a to b when x; }")
        self.item_limit("amount", "machine m { a; a to a when x[1000001]; a to a when x[W]; }")

    def test_uses(self):
        self.item_kind("u", "use u = nope(1000001) { a = x; }")
        self.item_kind("u", "use u = p(1000001, 1) { a = x; }")
        self.item_limit("amount", "use u = p(1000001) { a = x[W]; }")
        self.item_kind("u", "use u = p(W) { a = x[1000001]; }")
        self.item_limit("amount", "use u = p(0) { a = x[1000001]; b = x[W]; }")
        self.item_kind("u", "use u = p(0) { a = x[W]; }")
        self.item_kind("u.a", "use u = p(0) { a = x; }")
        self.item_kind("u", "use u = p(0) { nope = x[W]; }")

    def test_kinds_do_not_count_yet(self):
        self.assertEqual(names(alone("let a: 3 = nope; let b: 2 = word(0, 3); use u = p(2) { x = y; }")),
                         ["a", "b", "u", "u.a", "u.s"])


if __name__ == "__main__":
    unittest.main()
