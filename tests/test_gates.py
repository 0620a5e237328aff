"""Section Gates for words (points 8.1 and 8.2) and gates.py of the interface."""

import unittest
from random import Random

from calling import called
from cellcloth import meaning, nets
from cellcloth.elaborate import flat
from cellcloth.errors import LimitError
from cellcloth.gates import Builder, bits_in, blast, words_out
from cellcloth.parsing import parse
from cellcloth.words import SIGNS, arguments_of, calculate, result_width
from making import made, rows_for


def low_first(word, width):
    return [word >> at & 1 for at in range(width)]


def state_bits(circuit, state):
    found = []
    for (_, width, _, _), word in zip(circuit[2], state[1]):
        found += low_first(word, width)
    for (_, width, _, _), words in zip(circuit[3], state[2]):
        for word in words:
            found += low_first(word, width)
    return found


def telling(inputs, *expressions):
    """A flat circuit that tells expressions."""
    return ("flat", inputs, [], [], [], [(f"s{k}", e[1], e) for k, e in enumerate(expressions)])


def edge_words(random, width):
    most = 2 ** width - 1
    return random.choice((0, 1, most, most - 1, random.randint(0, most), random.randint(0, most), 2 ** (width - 1)))


class BlastTest(unittest.TestCase):
    def check_run(self, circuit, rows):
        """The net runs as the circuit does, also in its flops."""
        net = called(self, blast, circuit)
        nets.check(net)
        state = meaning.start(circuit)
        bits = net[2]
        told = []
        for words in rows:
            self.assertEqual(bits, state_bits(circuit, state))
            row, state = meaning.step(circuit, state, words)
            inputs = called(self, bits_in, circuit, words)
            self.assertEqual(inputs, [bit for (_, width), word in zip(circuit[1], words)
                                      for bit in low_first(word, width)])
            outputs, bits = nets.step(net, bits, inputs)
            self.assertEqual(outputs, [bit for (_, width, _), word in zip(circuit[5], row)
                                       for bit in low_first(word, width)])
            self.assertEqual(called(self, words_out, circuit, outputs), row)
            told.append(row)
        self.assertEqual(told, meaning.run(circuit, rows))
        self.assertEqual(net[1], sum(width for _, width in circuit[1]))
        return net

    def check_words(self, seed, circuit, many=25):
        random = Random(seed)
        rows = [[edge_words(random, width) for _, width in circuit[1]] for _ in range(many)]
        return self.check_run(circuit, rows)

    def test_each_sign_at_each_width(self):
        for sign in SIGNS:
            for width in range(1, 17):
                others = (1, 2, 3, 5, 16) if sign in ("shl", "shr") else (width,)
                for other in others:
                    inputs = [("a", width), ("b", other)][:arguments_of(sign)]
                    e = ("op", result_width(sign, width), sign, [("name", wide, name) for name, wide in inputs])
                    self.check_words(width, telling(inputs, e))

    def test_signs_on_all_words(self):
        for sign in SIGNS:
            for width in (1, 2, 3):
                inputs = [("a", width), ("b", width)][:arguments_of(sign)]
                e = ("op", result_width(sign, width), sign, [("name", width, name) for name, _ in inputs])
                circuit = telling(inputs, e)
                net = blast(circuit)
                for a in range(2 ** width):
                    for b in range(2 ** width):
                        words = [a, b][:len(inputs)]
                        told = nets.run(net, [bits_in(circuit, words)])[0]
                        self.assertEqual(words_out(circuit, told), [calculate(sign, width, words)])

    def test_equal_words_and_constants(self):
        for sign in SIGNS:
            for width in (1, 4, 16):
                name = ("name", width, "a")
                const = ("const", width, 2 ** width - 1)
                forms = [[name, name], [name, const], [const, name], [const, const]]
                expressions = [("op", result_width(sign, width), sign, words[:arguments_of(sign)]) for words in forms]
                self.check_words(width, telling([("a", width)], *expressions))

    def test_moves_by_more_than_there_is(self):
        for sign in ("shl", "shr"):
            for width in (1, 3, 8, 16):
                e = ("op", width, sign, [("name", width, "a"), ("name", 6, "b")])
                circuit = telling([("a", width), ("b", 6)], e)
                self.check_run(circuit, [[2 ** width - 1, by] for by in range(64)])

    def test_cuts_and_joins(self):
        for width in range(1, 17):
            name = ("name", width, "a")
            cuts = [("cut", many, name, low) for low in range(width) for many in range(1, width - low + 1)]
            self.check_words(width, telling([("a", width)], *cuts[:60]), 6)
        for many in range(1, 17):
            parts = [("name", 1, f"a{k}") for k in range(many)]
            join = ("join", many, parts)
            self.check_words(many, telling([(f"a{k}", 1) for k in range(many)], join, ("join", many, [join])))
        words = [("name", 3, "b"), ("const", 2, 1), ("name", 3, "b"), ("cut", 5, ("name", 7, "a"), 2)]
        self.check_words(0, telling([("a", 7), ("b", 3)], ("join", 13, words)))

    def test_choices(self):
        for width in range(1, 17):
            name = ("name", width, "a")
            expressions = [("choose", width, ("name", 1, "t"), name, ("name", width, "b")),
                           ("choose", width, ("const", 1, 1), name, ("name", width, "b")),
                           ("choose", width, ("const", 1, 0), name, ("name", width, "b")),
                           ("choose", width, ("name", 1, "t"), name, name)]
            self.check_words(width, telling([("t", 1), ("b", width), ("a", width)], *expressions))

    def test_memories(self):
        """Reads and writes at addresses of all widths, several writes in one cycle."""
        for depth in (1, 2, 3, 4, 5, 7, 8):
            for wide in (1, 2, 3, 4, 9):
                for width in (1, 3):
                    inputs = [("e0", 1), ("a0", wide), ("d0", width), ("e1", 1), ("d1", width), ("r", wide)]
                    writes = [(("name", 1, "e0"), ("name", wide, "a0"), ("name", width, "d0")),
                              (("name", 1, "e1"), ("name", wide, "a0"), ("name", width, "d1")),
                              (("name", 1, "e0"), ("name", wide, "r"), ("read", width, "m", ("name", wide, "a0")))]
                    circuit = ("flat", inputs, [], [("m", width, depth, writes)], [],
                               [("s", width, ("read", width, "m", ("name", wide, "r")))])
                    random = Random(depth * 100 + wide)
                    rows = [[random.randrange(2 ** w) if w < 9 else random.choice((random.randrange(9), 256, 511))
                             for _, w in inputs] for _ in range(30)]
                    self.check_run(circuit, rows)

    def test_deep_memory(self):
        name = ("name", 6, "a")
        circuit = ("flat", [("a", 6), ("d", 1)], [], [("m", 1, 64, [(("const", 1, 1), name, ("name", 1, "d"))])], [],
                   [("s", 1, ("read", 1, "m", name)), ("t", 1, ("read", 1, "m", ("const", 6, 63)))])
        net = self.check_run(circuit, [[63, 1], [63, 0], [63, 0], [0, 1], [31, 1], [0, 0], [31, 1]])
        self.assertEqual(net[2], [0] * 64)

    def test_order_of_flops_and_starts(self):
        circuit = flat(parse("part c() { in b: 2; mem m: 2 of 2 { } reg r: 3 from 6 = r; in a: 1; reg q: 2 from 1 = q; "
                             "mem k: 1 of 1 { } out s: 3 = r; out t: 2 = q; } top c();"))
        net = called(self, blast, circuit)
        self.assertEqual(net[1:3], (3, [0, 1, 1, 1, 0, 0, 0, 0, 0, 0]))
        self.assertEqual(net[5], [8, 10, 12, 14, 16])
        self.assertEqual(net[4], [2 * node for node in range(4, 14)])
        self.assertEqual(bits_in(circuit, [2, 1]), [0, 1, 1])
        self.assertEqual(words_out(circuit, [0, 1, 1, 0, 1]), [6, 2])

    def test_names_in_any_order(self):
        """Wires that stand behind what they name, with names that tell nothing; a memory with the name of a wire."""
        wires = [("z", 2, ("op", 2, "add", [("name", 2, "x y"), ("const", 2, 1)])),
                 ("a", 2, ("op", 2, "xor", [("name", 2, "z"), ("name", 2, "#")])),
                 ("", 1, ("op", 1, "less", [("name", 2, "a"), ("name", 2, "z")]))]
        circuit = ("flat", [("x y", 2)], [("#", 2, 3, ("name", 2, "a"))],
                   [("a", 1, 2, [(("const", 1, 1), ("name", 2, "z"), ("name", 1, ""))])], wires,
                   [("x y", 2, ("name", 2, "a")), ("#", 1, ("read", 1, "a", ("name", 1, "")))])
        self.check_words(3, circuit, 60)

    def test_nothing(self):
        circuit = ("flat", [], [], [], [], [])
        self.assertEqual(called(self, blast, circuit), ("net", 0, [], [], [], []))
        self.assertEqual([bits_in(circuit, []), words_out(circuit, [])], [[], []])

    def test_made_circuits(self):
        many = 0
        for seed in range(150):
            try:
                circuit = flat(made(seed))
            except LimitError:
                continue
            many += 1
            self.check_run(circuit, rows_for(seed, circuit[1], 8))
        self.assertGreater(many, 130)


class BuilderTest(unittest.TestCase):
    def test_example(self):
        told = Builder(2, [])
        self.assertEqual([told.both(2, 4), told.both(4, 2), told.both(2, 3), told.both(1, 5)], [6, 6, 0, 5])
        self.assertEqual(told.net([], [7]), ("net", 2, [], [(2, 4)], [], [7]))

    def test_pairs_that_give_no_gate(self):
        told = Builder(1, [0, 1])
        for x in range(8):
            self.assertEqual([told.both(x, x), told.both(x, x ^ 1), told.both(0, x), told.both(x, 0)], [x, 0, 0, 0])
            self.assertEqual([told.both(1, x), told.both(x, 1)], [x, x])
        self.assertEqual(told.net([2, 4], []), ("net", 1, [0, 1], [], [2, 4], []))

    def test_all_other_pairs_give_one(self):
        told = Builder(2, [1])
        made_so_far = {}
        for a in range(2, 8):
            for b in range(2, 8):
                if a // 2 != b // 2:
                    pair = (min(a, b), max(a, b))
                    literal = told.both(a, b)
                    self.assertEqual(literal, made_so_far.setdefault(pair, 8 + 2 * len(made_so_far)))
        net = told.net([0], [9])
        self.assertEqual([tuple(sorted(pair)) for pair in net[3]], list(made_so_far))
        self.assertEqual(net[4:], ([0], [9]))
        gate = told.both(8, 11)
        self.assertEqual(gate, 8 + 2 * len(made_so_far))
        self.assertEqual(told.both(11, 8), gate)
        self.assertEqual([told.both(gate, gate), told.both(gate, gate ^ 1)], [gate, 0])

    def test_what_was_returned_stays(self):
        starts = [1]
        nexts = [2]
        told = Builder(0, starts)
        first = told.net(nexts, [3])
        told.both(2, told.both(2, 3))
        starts.append(0)
        nexts.append(9)
        self.assertEqual(first, ("net", 0, [1], [], [2], [3]))
        second = told.net([2], [])
        self.assertEqual(second, ("net", 0, [1], [], [2], []))

    def test_values(self):
        for seed in range(20):
            random = Random(seed)
            told = Builder(3, [0])
            pairs = []
            literals = list(range(10))
            for _ in range(15):
                a, b = random.choice(literals), random.choice(literals)
                c = told.both(a, b)
                pairs.append((a, b, c))
                literals += [c, c ^ 1]
            net = told.net([0], [])
            nets.check(net)
            for number in range(16):
                row = nets.values(net, [number >> 3], low_first(number, 3))
                for a, b, c in pairs:
                    self.assertEqual(nets.valued(row, c), nets.valued(row, a) & nets.valued(row, b))


if __name__ == "__main__":
    unittest.main()
