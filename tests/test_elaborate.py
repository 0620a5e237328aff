"""Points 04.4 and 04.5, and elaborate.py of the interface."""

import copy
import unittest
from random import Random

from cellcloth.elaborate import flat
from cellcloth.errors import KindError, LimitError, LoopError
from cellcloth.layout import laid_out
from cellcloth.parsing import parse
from cellcloth.words import result_width
from making import made


def circuit(text, top="c()"):
    return flat(parse(text + "\ntop " + top + ";"))


def alone(items):
    return circuit("part c() { " + items + " }")


def name(width, text):
    return ("name", width, text)


def const(width, number):
    return ("const", width, number)


class FormTest(unittest.TestCase):
    def test_example(self):
        text = "part c(W) { in e: 1; reg n: W from 3 = choose(e, (n + word(1, W)), n); out s: W = n; }"
        self.assertEqual(circuit(text, "c(2)"), (
            "flat", [("e", 1)],
            [("n", 2, 3, ("choose", 2, name(1, "e"), ("op", 2, "add", [name(2, "n"), const(2, 1)]), name(2, "n")))],
            [], [], [("s", 2, name(2, "n"))]))
        with self.assertRaises(LoopError) as caught:
            circuit("part c() { out s: 1 = x; let x: 1 = not(x); }")
        self.assertEqual(caught.exception.places, ["x"])

    def test_nothing(self):
        self.assertEqual(alone(""), ("flat", [], [], [], [], []))

    def test_inputs_and_outputs(self):
        told = alone("out s: 1 = b; in a: 2; out t: 2 = a; in b: 1; out r: 2 = a;")
        self.assertEqual(told, (
            "flat", [("a", 2), ("b", 1)], [], [], [],
            [("s", 1, name(1, "b")), ("t", 2, name(2, "a")), ("r", 2, name(2, "a"))]))

    def expression(self, text, width):
        told = alone("in a: 4; in b: 4; in e: 1; mem m[1]: 5 of 3 { } machine f { x, y, z; } let w[0]: 4 = a;"
                     f" reg r: 4 from 0 = r; out s: {width} = {text};")
        self.assertEqual(told[5][0][:2], ("s", width))
        return told[5][0][2]

    def test_expressions(self):
        a, b, e = name(4, "a"), name(4, "b"), name(1, "e")
        self.assertEqual(self.expression("a", 4), a)
        self.assertEqual(self.expression("w[0]", 4), name(4, "w.0"))
        self.assertEqual(self.expression("r", 4), name(4, "r"))
        for sign, text in (("and", "&"), ("or", "|"), ("xor", "^"), ("add", "+"), ("sub", "-"), ("mul", "*"),
                           ("shl", "<<"), ("shr", ">>")):
            self.assertEqual(self.expression(f"(a {text} b)", 4), ("op", 4, sign, [a, b]))
        self.assertEqual(self.expression("(a << e)", 4), ("op", 4, "shl", [a, e]))
        self.assertEqual(self.expression("(e >> a)", 1), ("op", 1, "shr", [e, a]))
        self.assertEqual(self.expression("(a == b)", 1), ("op", 1, "same", [a, b]))
        self.assertEqual(self.expression("(a < b)", 1), ("op", 1, "less", [a, b]))
        self.assertEqual(self.expression("not(a)", 4), ("op", 4, "not", [a]))
        for sign in ("any", "all", "odd"):
            self.assertEqual(self.expression(f"{sign}(a)", 1), ("op", 1, sign, [a]))
        self.assertEqual(self.expression("cut(a, 1, 3)", 3), ("cut", 3, a, 1))
        self.assertEqual(self.expression("cut(a, 0, 4)", 4), ("cut", 4, a, 0))
        self.assertEqual(self.expression("join(a, e, b)", 9), ("join", 9, [a, e, b]))
        self.assertEqual(self.expression("join(a)", 4), ("join", 4, [a]))
        self.assertEqual(self.expression("choose(e, a, b)", 4), ("choose", 4, e, a, b))
        self.assertEqual(self.expression("read(m[1], a)", 5), ("read", 5, "m.1", a))
        self.assertEqual(self.expression("read(m[1], (a + b))", 5), ("read", 5, "m.1", ("op", 4, "add", [a, b])))
        self.assertEqual(self.expression("f is x", 1), ("op", 1, "same", [name(2, "f"), const(2, 0)]))
        self.assertEqual(self.expression("f is z", 1), ("op", 1, "same", [name(2, "f"), const(2, 2)]))
        self.assertEqual(
            self.expression("choose(not((a == b)), (join(e, e) ^ word(2, 2)), cut(a, 2, 2))", 2),
            ("choose", 2, ("op", 1, "not", [("op", 1, "same", [a, b])]),
             ("op", 2, "xor", [("join", 2, [e, e]), const(2, 2)]), ("cut", 2, a, 2)))

    def test_constants(self):
        for number, width, told in ((5, 3, 5), (8, 3, 0), (9, 3, 1), (-1, 3, 7), (-8, 3, 0), (1000000, 16, 16960),
                                    (-1000000, 16, 48576), (65535, 16, 65535), (65536, 16, 0), (1, 1, 1), (2, 1, 0)):
            self.assertEqual(self.expression(f"word({number}, {width})", width), const(width, told))

    def test_registers(self):
        told = alone("reg r[1]: 3 from 9 = r[1]; machine f { x; } reg q: 2 from -1 = cut(r[1], 0, 2);")
        self.assertEqual(told[2], [
            ("r.1", 3, 1, name(3, "r.1")), ("f", 1, 0, name(1, "f")), ("q", 2, 3, ("cut", 2, name(3, "r.1"), 0))])

    def test_machines(self):
        told = alone("in e: 1; in d: 1; machine f { x, y, z; x to y when e; x to z when d; z to x when f is z; }"
                     " machine g[0] { x, y; y to y when e; }")
        f, e, d = name(2, "f"), name(1, "e"), name(1, "d")

        def goes(k, test):
            return ("op", 1, "and", [("op", 1, "same", [f, const(2, k)]), test])
        last = ("choose", 2, goes(2, ("op", 1, "same", [f, const(2, 2)])), const(2, 0), f)
        second = ("choose", 2, goes(0, d), const(2, 2), last)
        first = ("choose", 2, goes(0, e), const(2, 1), second)
        g = name(1, "g.0")
        self.assertEqual(told[2], [
            ("f", 2, 0, first),
            ("g.0", 1, 0, ("choose", 1, ("op", 1, "and", [("op", 1, "same", [g, const(1, 1)]), e]), const(1, 1), g))])

    def test_widths_of_machines(self):
        for many, width in ((1, 1), (2, 1), (3, 2), (4, 2), (5, 3), (8, 3), (9, 4), (16, 4), (17, 5), (32, 5),
                            (33, 6), (64, 6)):
            told = alone("machine f { " + ", ".join(f"s{k}" for k in range(many)) + f"; }} out s: 1 = f is s{many - 1};")
            self.assertEqual(told[2], [("f", width, 0, name(width, "f"))])
            self.assertEqual(told[5][0][2], ("op", 1, "same", [name(width, "f"), const(width, many - 1)]))

    def test_memories(self):
        told = alone("in e: 1; in a: 3; mem m: 3 of 5 { when e at a put a; when word(1, 1) at e put (a + a); }"
                     " mem k[2, 1]: 1 of 1 { }")
        e, a = name(1, "e"), name(3, "a")
        self.assertEqual(told[3], [
            ("m", 3, 5, [(e, a, a), (const(1, 1), e, ("op", 3, "add", [a, a]))]), ("k.2.1", 1, 1, [])])

    def test_places_within(self):
        told = circuit(
            "part p(W) { reg r: W from 1 = a; out s: W = (r & x); let x: W = not(a); mem m: W of 2 { when b at a put x; }"
            " in a: W; in b: 1; }"
            "part q() { in e: 1; rows i from 1 to 3 { use u[i] = p(i) { b = e; a = word(3, i); } } out t: 2 = u[2].s; }"
            "part c() { in d: 1; use v = q() { e = not(d); } machine f { x; } out s: 2 = v.t; out n: 1 = d; }")
        self.assertEqual(told[1], [("d", 1)])
        self.assertEqual(told[2], [
            ("v.u.1.r", 1, 1, name(1, "v.u.1.a")), ("v.u.2.r", 2, 1, name(2, "v.u.2.a")), ("f", 1, 0, name(1, "f"))])
        self.assertEqual(told[3], [
            (f"v.u.{i}.m", i, 2, [(name(1, f"v.u.{i}.b"), name(i, f"v.u.{i}.a"), name(i, f"v.u.{i}.x"))])
            for i in (1, 2)])
        wires = [("v.e", 1, ("op", 1, "not", [name(1, "d")]))]
        for i in (1, 2):
            wires += [
                (f"v.u.{i}.a", i, const(i, 3 % 2 ** i)),
                (f"v.u.{i}.x", i, ("op", i, "not", [name(i, f"v.u.{i}.a")])),
                (f"v.u.{i}.s", i, ("op", i, "and", [name(i, f"v.u.{i}.r"), name(i, f"v.u.{i}.x")])),
                (f"v.u.{i}.b", 1, name(1, "v.e"))]
        wires.append(("v.t", 2, name(2, "v.u.2.s")))
        self.assertEqual(told[4], wires)
        self.assertEqual(told[5], [("s", 2, name(2, "v.t")), ("n", 1, name(1, "d"))])


class OrderTest(unittest.TestCase):
    def wires(self, items):
        return [wire[0] for wire in alone("in i: 1; " + items)[4]]

    def test_as_laid_out(self):
        self.assertEqual(self.wires("let c: 1 = i; let a: 1 = i; let b: 1 = i;"), ["c", "a", "b"])
        self.assertEqual(self.wires("let c: 1 = i; let a: 1 = c; let b: 1 = (a & c);"), ["c", "a", "b"])

    def test_later_ones_first(self):
        self.assertEqual(self.wires("let a: 1 = b; let b: 1 = c; let c: 1 = i;"), ["c", "b", "a"])
        self.assertEqual(self.wires("let a: 1 = (c & b); let b: 1 = i; let c: 1 = i; let d: 1 = i;"),
                         ["c", "b", "a", "d"])
        self.assertEqual(self.wires("let a: 1 = (c & b); let b: 1 = c; let c: 1 = (e | d); let d: 1 = i; let e: 1 = d;"),
                         ["d", "e", "c", "b", "a"])

    def test_from_left_to_right(self):
        for x in ("choose(c, d, b)", "join(c, d, b)", "(c & (d | b))", "((c | d) & b)",
                  "read(m, join(c, d, b))", "(not(c) + choose(d, b, b))", "cut(join(c, i, d, c, b), 1, 1)",
                  "choose(any(join(c, c)), cut(d, 0, 1), b)"):
            items = f"let a: 3 = choose(any({x}), word(0, 3), word(1, 3)); let b: 1 = i; let c: 1 = i; let d: 1 = i;"
            self.assertEqual(self.wires("mem m: 3 of 2 { } " + items), ["c", "d", "b", "a"])

    def test_registers_and_states_are_no_wires(self):
        self.assertEqual(self.wires("let a: 1 = ((r & f is x) & read(m, b)); reg r: 1 from 0 = c; machine f { x; x to x "
                                    "when c; } mem m: 1 of 1 { when c at c put c; } let b: 1 = i; let c: 1 = i;"),
                         ["b", "a", "c"])

    def test_outputs_and_registers_do_not_change_the_order(self):
        self.assertEqual(self.wires("out s: 1 = c; let a: 1 = i; let b: 1 = i; let c: 1 = i;"), ["a", "b", "c"])

    def test_inputs_and_outputs_of_places(self):
        told = circuit(
            "part p() { out s: 1 = (b | w); in a: 1; let w: 1 = a; in b: 1; }"
            "part c() { in i: 1; let x: 1 = u.s; use u = p() { b = z; a = y; } let y: 1 = i; let z: 1 = y; }")
        self.assertEqual([wire[0] for wire in told[4]], ["y", "z", "u.b", "u.a", "u.w", "u.s", "x"])

    def test_against_a_plain_walk(self):
        """The order is found again from the expressions of the flat circuit."""
        for seed in range(200):
            description = made(seed)
            try:
                told = flat(description)
            except LimitError:
                continue
            wires = {wire[0]: wire[2] for wire in told[4]}
            done = []

            def finish(wire):
                if wire in wires and wire not in done:
                    for other in named(wires[wire]):
                        finish(other)
                    done.append(wire)
            laid = laid_wires(laid_out(description), False)
            for wire in laid:
                finish(wire)
            self.assertEqual(done, [wire[0] for wire in told[4]])
            self.assertEqual(sorted(laid), sorted(wires))

    def test_long_chains(self):
        for seed in range(3):
            many = 1990
            numbers = list(range(many))
            if seed == 0:
                numbers.reverse()
            if seed == 1:
                Random(seed).shuffle(numbers)
            items = "".join(f"let w[{k}]: 1 = " + (f"w[{k - 1}]; " if k else "i; ") for k in numbers)
            self.assertEqual(self.wires(items), [f"w.{k}" for k in range(many)])


def laid_wires(place, within):
    found = []
    for thing in place.things:
        if thing.kind == "let" or within and thing.kind in ("in", "out"):
            found.append(thing.name)
        if thing.kind == "use":
            found.extend(laid_wires(thing.inner, True))
    return found


def named(e):
    if e[0] == "name":
        return [e[2]]
    within = {"const": [], "op": e[-1], "join": e[-1], "cut": e[2:3], "choose": e[2:], "read": e[3:]}[e[0]]
    return [text for x in within for text in named(x)]


class WellFormedTest(unittest.TestCase):
    def width(self, e, words, memories):
        """Looks at an expression as point 04.4 forms it, and returns its width."""
        self.assertIs(type(e), tuple)
        self.assertIn(e[0], ("const", "name", "op", "cut", "join", "choose", "read"))
        if e[0] == "const":
            self.assertTrue(0 <= e[2] < 2 ** e[1])
        elif e[0] == "name":
            self.assertEqual(words[e[2]], e[1])
        elif e[0] == "op":
            self.assertIs(type(e[3]), list)
            widths = [self.width(x, words, memories) for x in e[3]]
            self.assertEqual(e[1], result_width(e[2], widths[0]))
        elif e[0] == "cut":
            self.assertLessEqual(e[3] + e[1], self.width(e[2], words, memories))
        elif e[0] == "join":
            self.assertIs(type(e[2]), list)
            self.assertEqual(e[1], sum(self.width(x, words, memories) for x in e[2]))
        elif e[0] == "choose":
            self.assertEqual([self.width(x, words, memories) for x in e[2:]], [1, e[1], e[1]])
        else:
            self.assertEqual(e[1], memories[e[2]])
            self.width(e[3], words, memories)
        return e[1]

    def test_many(self):
        for seed in range(200):
            description = made(seed)
            kept = copy.deepcopy(description)
            try:
                told = flat(description)
            except LimitError:
                continue
            self.assertEqual(description, kept)
            self.assertEqual(flat(description), told)
            _, inputs, registers, memories, wires, outputs = told
            self.assertEqual([type(part) for part in told[1:]], [list] * 5)
            words = dict(inputs)
            words.update({register[0]: register[1] for register in registers})
            rooms = {memory[0]: memory[1] for memory in memories}
            for wire, width, e in wires:
                self.assertEqual(self.width(e, words, rooms), width)
                self.assertNotIn(wire, words)
                words[wire] = width
            for _, width, e in outputs:
                self.assertEqual(self.width(e, words, rooms), width)
            for _, width, start, e in registers:
                self.assertTrue(0 <= start < 2 ** width)
                self.assertEqual(self.width(e, words, rooms), width)
            for _, width, _, writes in memories:
                self.assertIs(type(writes), list)
                for enable, address, word in writes:
                    self.assertEqual(self.width(enable, words, rooms), 1)
                    self.width(address, words, rooms)
                    self.assertEqual(self.width(word, words, rooms), width)


class LoopsTest(unittest.TestCase):
    def loop(self, places, text, top="c()"):
        with self.assertRaises(LoopError) as caught:
            circuit(text, top)
        self.assertEqual(caught.exception.places, places)
        self.assertIs(type(caught.exception.places), list)

    def item_loop(self, places, items):
        self.loop(places, "part c() { in i: 1; " + items + " }")

    def test_one_and_several(self):
        self.item_loop(["x"], "let x: 1 = x;")
        self.item_loop(["x"], "let x: 1 = (i & not(x));")
        self.item_loop(["x", "y"], "let x: 1 = y; let y: 1 = x;")
        self.item_loop(["a", "b", "c", "d"], "let d: 1 = a; let b: 1 = c; let c: 1 = d; let a: 1 = b;")
        self.item_loop(["a", "b", "c", "d"], "let d: 1 = c; let b: 1 = a; let c: 1 = d; let a: 1 = b;")
        self.item_loop(["w.10", "w.9"], "let w[9]: 1 = w[10]; let w[10]: 1 = w[9];")

    def test_only_what_lies_on_them(self):
        # What leads to a circle, or from one to another, does not lie on one.
        self.item_loop(["x", "y"], "let a: 1 = x; let x: 1 = y; let y: 1 = (b | x); let b: 1 = i;")
        self.item_loop(["u", "v", "x", "y"],
                       "let u: 1 = v; let v: 1 = (u & m); let m: 1 = n; let n: 1 = x; let x: 1 = y; let y: 1 = x;")
        self.item_loop(["a", "b", "c"], "let a: 1 = (b & c); let b: 1 = a; let c: 1 = a;")

    def test_all_ways_to_name(self):
        for x in ("choose(x, i, i)", "choose(i, x, i)", "choose(i, i, x)", "cut(join(i, x), 1, 1)", "cut(x, 0, 1)",
                  "odd(x)", "(i << x)", "(x == i)", "read(m, x)", "read(m, join(i, not(x)))"):
            self.item_loop(["x"], "mem m: 1 of 2 { when x at x put x; } let x: 1 = " + x + ";")

    def test_through_places(self):
        part = "part p() { in a: 1; in b: 1; out s: 1 = a; out t: 1 = b; } "
        self.loop(["u.a", "u.s"], part + "part c() { in i: 1; use u = p() { a = u.s; b = i; } }")
        self.loop(["u.a", "u.b", "u.s", "u.t", "x"],
                  part + "part c() { in i: 1; use u = p() { a = u.t; b = x; } let x: 1 = u.s; }")
        told = circuit(part + "part c() { in i: 1; use u = p() { a = u.t; b = i; } out s: 1 = u.s; }")
        self.assertEqual([wire[0] for wire in told[4]], ["u.b", "u.t", "u.a", "u.s"])
        self.loop(["u.v.a", "u.v.s", "u.v.x"], "part p() { in a: 1; let x: 1 = a; out s: 1 = x; } "
                  "part q() { use v = p() { a = v.s; } } part c() { use u = q() { } }")

    def test_registers_break_circles(self):
        told = alone("let x: 1 = not(r); reg r: 1 from 0 = x; let y: 1 = read(m, r); mem m: 1 of 1 { when y at y put y; }"
                     " machine f { a, b; a to b when z; } let z: 1 = f is b;")
        self.assertEqual([wire[0] for wire in told[4]], ["x", "y", "z"])
        self.assertEqual(alone("reg r: 1 from 0 = r;")[4], [])

    def test_against_all_ways(self):
        for seed in range(150):
            random = Random(seed)
            many = random.randint(1, 9)
            uses = {k: random.sample(range(many), random.randint(0, min(2, many))) for k in range(many)}
            items = "".join(f"let w[{k}]: 1 = odd(join(i" + "".join(f", w[{n}]" for n in uses[k]) + ")); "
                            for k in uses)
            ways = {(k, n) for k in uses for n in uses[k]}
            for middle in range(many):
                ways |= {(k, n) for k in range(many) for n in range(many)
                         if (k, middle) in ways and (middle, n) in ways}
            places = sorted(f"w.{k}" for k in range(many) if (k, k) in ways)
            if places:
                self.item_loop(places, items)
            else:
                self.assertEqual(len(alone("in i: 1; " + items)[4]), many)

    def test_a_long_circle(self):
        items = "".join(f"let w[{k}]: 1 = w[{(k + 1) % 1990}]; " for k in range(1990))
        self.item_loop(sorted(f"w.{k}" for k in range(1990)), items)


class LimitsTest(unittest.TestCase):
    def limit(self, kind, items):
        with self.assertRaises(LimitError) as caught:
            alone(items)
        self.assertEqual(caught.exception.kind, kind)

    def test_inputs(self):
        sixteens = "rows i from 0 to 1 { in a: 16; in b: 16; in d: 16; } "
        self.assertEqual(len(alone(sixteens + "in e: 16;")[1]), 4)
        self.limit("inputs", sixteens + "in e: 16; in f: 1;")
        # The inputs of places within do not count.
        told = circuit("part p() { in a: 16; in b: 16; } part c() { rows i from 0 to 3 { use u[i] = p() "
                       "{ a = word(0, 16); b = word(0, 16); } } }")
        self.assertEqual(len(told[4]), 6)

    def test_state(self):
        self.assertEqual(len(alone("mem m: 1 of 64 { }")[3]), 1)
        self.assertEqual(len(alone("mem m: 2 of 16 { } mem k: 15 of 2 { } machine f { x, y, z; }")[2]), 1)
        self.limit("state", "mem m: 2 of 16 { } mem k: 15 of 2 { } machine f { x, y, z; } reg r: 1 from 0 = r;")
        self.limit("state", "mem m: 13 of 5 { }")
        self.limit("state", "mem m: 1 of 64 { } machine f { x; }")
        self.limit("state", "mem m: 1 of 64 { } reg r: 1 from 0 = r;")
        self.assertEqual(len(alone("rows i from 0 to 64 { reg r[i]: 1 from 0 = r[i]; }")[2]), 64)
        self.limit("state", "rows i from 0 to 65 { reg r[i]: 1 from 0 = r[i]; }")
        # Those of places within count.
        with self.assertRaises(LimitError) as caught:
            circuit("part p() { reg r: 13 from 0 = r; } part c() { rows i from 0 to 5 { use u[i] = p() { } } }")
        self.assertEqual(caught.exception.kind, "state")

    def test_outputs(self):
        fours = "in a: 16; out s: 16 = a; out t: 16 = a; out u: 16 = a; "
        self.assertEqual(len(alone(fours + "out v: 16 = a;")[5]), 4)
        self.limit("outputs", fours + "out v: 16 = a; out w: 1 = cut(a, 0, 1);")

    def test_their_order(self):
        inputs = "in a: 16; in b: 16; in d: 16; in e: 16; in f: 16; "
        state = "mem m: 2 of 33 { } "
        outputs = "out s: 16 = x; out t: 16 = x; out u: 16 = x; out v: 16 = x; out w: 16 = x; let x: 16 = word(0, 16); "
        self.limit("inputs", outputs + state + inputs)
        self.limit("state", outputs + state)
        self.limit("inputs", outputs + inputs)
        self.limit("outputs", outputs)

    def test_layout_then_kinds_then_circles_then_limits(self):
        over = "mem m: 2 of 33 { } "
        circle = "let x: 1 = y; let y: 1 = x; "
        kind = "let z: 2 = x; "
        with self.assertRaises(KindError) as caught:
            alone(over + circle + kind + "in a: 0;")
        self.assertEqual(caught.exception.place, "a")
        with self.assertRaises(LimitError) as caught:
            alone(over + circle + kind + "rows i from 0 to 5000 { }")
        self.assertEqual(caught.exception.kind, "rows")
        with self.assertRaises(KindError) as caught:
            alone(over + circle + kind)
        self.assertEqual(caught.exception.place, "z")
        with self.assertRaises(LoopError) as caught:
            alone(over + circle)
        self.assertEqual(caught.exception.places, ["x", "y"])
        self.limit("state", over + "in x: 1;")


if __name__ == "__main__":
    unittest.main()
