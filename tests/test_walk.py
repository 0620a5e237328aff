"""Point 05.2 and walk.py of the interface."""

import copy
import unittest

from cellcloth.elaborate import flat
from cellcloth.errors import KindError, LimitError, LoopError
from cellcloth.meaning import run, start, step
from cellcloth.parsing import parse
from cellcloth.walk import Walk
from making import made, rows_for

SEEDS = 400


def walk(text, top="c()"):
    return Walk(parse(text + "\ntop " + top + ";"))


def alone(items):
    return walk("part c() { " + items + " }")


class WalkTest(unittest.TestCase):
    def test_example(self):
        text = ("part c() { in e: 1; machine m { red, green; red to green when e; green to red when e; } "
                "out s: 1 = m is green; } top c();")
        told = Walk(parse(text))
        self.assertEqual([run(flat(parse(text)), [[1], [0], [1], [1]]), [told.cycle([1]), told.cycle([0])],
                          told.state_of("m")], [[[0], [1], [1], [0]], [[0], [1]], "green"])

    def test_tells_what_the_flat_circuit_tells(self):
        many = 0
        for seed in range(SEEDS):
            description = made(seed)
            kept = copy.deepcopy(description)
            told = Walk(description)
            try:
                circuit = flat(description)
            except LimitError as error:
                self.assertIn(error.kind, ("inputs", "state", "outputs"))
                continue
            many += 1
            rows = rows_for(seed, circuit[1], 8)
            state = start(circuit)
            for words in rows:
                self.check_state(description, told, circuit, state)
                row, state = step(circuit, state, words)
                self.assertEqual(told.cycle(words), row)
            self.check_state(description, told, circuit, state)
            self.assertEqual(description, kept)
            self.assertEqual(rows, rows_for(seed, circuit[1], 8))
        self.assertGreater(many, SEEDS * 9 // 10)

    def check_state(self, description, told, circuit, state):
        for register, word in zip(circuit[2], state[1]):
            now = told.state_of(register[0])
            # The states of the machines of these descriptions are called by their numbers.
            self.assertEqual(int(now[1:]) if isinstance(now, str) else now, word)
        for memory, words in zip(circuit[3], state[2]):
            self.assertEqual(told.state_of(memory[0]), words)

    def test_two_walks_do_not_meet(self):
        description = parse("part c() { reg r: 4 from 1 = (r + r); mem m: 4 of 1 { when word(1, 1) at r put r; } "
                            "out s: 4 = r; } top c();")
        first = Walk(description)
        second = Walk(description)
        self.assertEqual([first.cycle([]), first.cycle([]), second.cycle([]), first.cycle([])], [[1], [2], [1], [4]])
        self.assertEqual([first.state_of("r"), second.state_of("r")], [8, 2])

    def test_plain_meaning(self):
        """A part within a part, told by hand."""
        told = walk(
            "part cell(W, S) { in d: W; in e: 1; reg r: W from S = choose(e, d, r); out q: W = r; out n: W = (r + d); }"
            "part c() { in a: 3; use k[0] = cell(3, 5) { e = word(1, 1); d = k[1].n; } "
            "use k[1] = cell(3, 9) { d = a; e = (a == word(2, 3)); } out s: 3 = k[0].q; out t: 3 = k[1].n; "
            "out u: 3 = k[1].q; }")
        # The registers begin with 5 and 1; the second one takes the input if this is 2, the first one the sum.
        self.assertEqual([told.state_of("k.0.r"), told.state_of("k.1.r")], [5, 1])
        self.assertEqual(told.cycle([3]), [5, 4, 1])
        self.assertEqual(told.cycle([2]), [4, 3, 1])
        self.assertEqual(told.cycle([7]), [3, 1, 2])
        self.assertEqual([told.state_of("k.0.r"), told.state_of("k.1.r")], [1, 2])


class StateTest(unittest.TestCase):
    def test_state_of(self):
        told = walk(
            "part p(W) { in a: W; reg r[2]: W from 3 = a; mem m: W of 3 { when word(1, 1) at r[2] put a; } "
            "machine f[0, 1] { x, y; x to y when any(a); y to x when any(a); } }"
            "part q() { in a: 4; use u[-1] = p(4) { a = not(a); } } "
            "part c() { in a: 4; rows i from 0 to 2 { use v[i] = q() { a = (a + word(i, 4)); } } reg r: 2 from 7 = r; }")
        self.assertEqual(told.state_of("r"), 3)
        self.assertEqual(told.state_of("v.0.u.-1.r.2"), 3)
        self.assertEqual(told.state_of("v.1.u.-1.m"), [0, 0, 0])
        self.assertEqual(told.state_of("v.1.u.-1.f.0.1"), "x")
        self.assertEqual(told.cycle([14]), [])
        self.assertEqual([told.state_of(f"v.{i}.u.-1.r.2") for i in (0, 1)], [1, 0])
        self.assertEqual([told.state_of(f"v.{i}.u.-1.m") for i in (0, 1)], [[0, 0, 0], [0, 0, 0]])
        self.assertEqual([told.state_of(f"v.{i}.u.-1.f.0.1") for i in (0, 1)], ["y", "x"])
        told.cycle([0])
        self.assertEqual([told.state_of(f"v.{i}.u.-1.r.2") for i in (0, 1)], [15, 14])
        self.assertEqual([told.state_of(f"v.{i}.u.-1.m") for i in (0, 1)], [[0, 15, 0], [14, 0, 0]])
        self.assertEqual([told.state_of(f"v.{i}.u.-1.f.0.1") for i in (0, 1)], ["x", "y"])

    def test_what_is_returned_stays(self):
        told = alone("in a: 2; mem m: 2 of 2 { when word(1, 1) at cut(a, 0, 1) put a; }")
        before = told.state_of("m")
        told.cycle([1])
        after = told.state_of("m")
        self.assertEqual((before, after), ([0, 0], [0, 1]))
        after[0] = 3
        before[0] = 3
        self.assertEqual(told.state_of("m"), [0, 1])
        told.cycle([2])
        self.assertEqual((after, told.state_of("m")), ([3, 1], [2, 1]))

    def test_the_first_fitting_move(self):
        told = alone("in a: 2; machine f { x, y, z; x to y when cut(a, 0, 1); x to z when cut(a, 1, 1); z to x when any(a);"
                     " z to y when any(a); }")
        found = []
        for word in (0, 2, 0, 3, 3, 1):
            told.cycle([word])
            found.append(told.state_of("f"))
        self.assertEqual(found, ["x", "z", "z", "x", "y", "y"])

    def test_memories(self):
        told = alone("in w: 1; in a: 3; in d: 4; mem m: 4 of 5 { when w at a put d; when w at word(0, 1) put word(9, 4); }"
                     " out s: 4 = read(m, a);")
        found = [told.cycle(words)[0] for words in ([1, 4, 3], [0, 4, 0], [0, 5, 0], [1, 7, 5], [1, 0, 4], [0, 0, 0])]
        self.assertEqual(found, [0, 3, 0, 0, 9, 9])
        self.assertEqual(told.state_of("m"), [9, 0, 0, 0, 3])


class ErrorsTest(unittest.TestCase):
    def raises(self, error, attribute, value, items):
        with self.assertRaises(error) as caught:
            alone(items)
        self.assertEqual(getattr(caught.exception, attribute), value)

    def test_what_it_raises(self):
        self.raises(KindError, "place", "a", "in a: 0;")
        self.raises(KindError, "place", "", "if W { } else { }")
        self.raises(KindError, "place", "x", "in a: 2; let x: 1 = a;")
        self.raises(KindError, "place", "b", "let x: 1 = nope; in b: 0;")
        self.raises(LimitError, "kind", "rows", "rows i from 0 to 5000 { }")
        self.raises(LimitError, "kind", "amount", "in a: 1000001;")
        self.raises(LimitError, "kind", "things", "rows i from 0 to 2001 { let a[i]: 1 = word(0, 1); }")
        with self.assertRaises(LimitError) as caught:
            walk("part c() { use u = c() { } }")
        self.assertEqual(caught.exception.kind, "depth")
        with self.assertRaises(KindError) as caught:
            walk("part c(W) { }")
        self.assertEqual(caught.exception.place, "")

    def test_what_it_does_not_raise(self):
        circle = "in a: 1; let x: 1 = (y | a); let y: 1 = x; out s: 1 = a;"
        with self.assertRaises(LoopError):
            flat(parse("part c() { " + circle + " } top c();"))
        alone(circle)
        alone("let x: 1 = x; out s: 1 = x;")
        inputs = "in a: 16; in b: 16; in d: 16; in e: 16; in f: 1; "
        told = alone(inputs + "out s: 1 = f;")
        self.assertEqual(told.cycle([1, 2, 3, 4, 1]), [1])
        told = alone("mem m: 16 of 64 { when word(1, 1) at word(63, 6) put (read(m, word(63, 6)) + word(1, 16)); } "
                     "out s: 16 = read(m, word(63, 6));")
        self.assertEqual([told.cycle([]), told.cycle([])], [[0], [1]])
        outputs = "in a: 16; out s: 16 = a; out t: 16 = a; out u: 16 = a; out v: 16 = a; out w: 16 = not(a);"
        self.assertEqual(alone(outputs).cycle([1]), [1, 1, 1, 1, 65534])


class LargeTest(unittest.TestCase):
    def test_long_chains(self):
        items = "".join(f"let w[{k}]: 2 = (w[{k + 1}] + w[{k + 1}]); " for k in range(1900))
        told = alone("in i: 2; " + items.replace("+ w[", "^ w[") + "let w[1900]: 2 = i; out s: 2 = w[1899];")
        self.assertEqual([told.cycle([3]), told.cycle([1])], [[0], [0]])
        items = "".join(f"let w[{k}]: 2 = not(w[{k + 1}]); " for k in range(1901))
        told = alone("in i: 2; " + items + "let w[1901]: 2 = i; out s: 2 = w[0];")
        self.assertEqual([told.cycle([3]), told.cycle([1])], [[0], [2]])

    def test_a_long_way_through_places(self):
        text = ("part p() { in a: 4; out s: 4 = (a + word(1, 4)); } part c() { in i: 4; let x[100]: 4 = i; "
                "rows k from 0 to 100 { use u[k] = p() { a = x[(k + 1)]; } let x[k]: 4 = u[k].s; } out s: 4 = x[0]; }")
        told = walk(text)
        self.assertEqual([told.cycle([0]), told.cycle([9])], [[100 % 16], [109 % 16]])
        self.assertEqual(run(flat(parse(text + " top c();")), [[0], [9]]), [[100 % 16], [109 % 16]])

    def test_deep_places(self):
        text = ("part c(N) { in a: 8; if (0 < N) { use u = c((N - 1)) { a = (a + word(N, 8)); } out s: 8 = not(u.s); }"
                " else { out s: 8 = a; } }")
        told = walk(text, "c(24)")
        self.assertEqual(told.cycle([5]), [(5 + 300) % 256])
        self.assertEqual(run(flat(parse(text + " top c(24);")), [[5]]), [[(5 + 300) % 256]])


if __name__ == "__main__":
    unittest.main()
