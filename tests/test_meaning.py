"""Points 02.6, 0.4, 05.1 and 05.3, and meaning.py of the interface."""

import copy
import unittest

from cellcloth.elaborate import flat
from cellcloth.errors import LimitError
from cellcloth.meaning import run, start, step
from cellcloth.parsing import parse
from cellcloth.words import SIGNS, arguments_of, calculate, result_width
from making import made, rows_for


def circuit(items):
    return flat(parse("part c() { " + items + " } top c();"))


class StateTest(unittest.TestCase):
    def test_the_first(self):
        told = circuit("reg r: 3 from 13 = r; machine f { x, y; } mem m: 4 of 3 { } reg q: 2 from -1 = q; mem k: 1 of 1 { }")
        self.assertEqual(start(told), ("state", [5, 0, 3], [[0, 0, 0], [0]]))
        self.assertEqual(start(circuit("")), ("state", [], []))
        self.assertIsNot(start(told), start(told))

    def test_a_step(self):
        told = circuit("in a: 3; reg r: 3 from 1 = (r + a); mem m: 3 of 2 { when word(1, 1) at a put r; } out s: 3 = r;")
        state = start(told)
        row, after = step(told, state, [1])
        self.assertEqual((row, after), ([1], ("state", [2], [[0, 1]])))
        self.assertEqual(state, ("state", [1], [[0, 0]]))
        self.assertEqual(step(told, after, [0]), ([2], ("state", [2], [[2, 1]])))
        self.assertEqual(step(told, after, [7]), ([2], ("state", [1], [[0, 1]])))
        self.assertIs(type(step(told, after, [7])), tuple)
        self.assertEqual(step(circuit(""), ("state", [], []), []), ([], ("state", [], [])))

    def test_any_state(self):
        told = circuit("reg r: 4 from 0 = (r * r); mem m: 2 of 3 { } out s: 2 = read(m, r);")
        self.assertEqual(step(told, ("state", [2], [[3, 1, 2]]), []), ([2], ("state", [4], [[3, 1, 2]])))

    def test_nothing_is_modified(self):
        for seed in range(40):
            try:
                told = flat(made(seed))
            except LimitError:
                continue
            kept = copy.deepcopy(told)
            state = start(told)
            for words in rows_for(seed, told[1], 4):
                before = copy.deepcopy((state, words))
                first = step(told, state, words)
                self.assertEqual((state, words), before)
                copied = copy.deepcopy(first)
                self.assertEqual(step(told, state, words), first)
                self.assertEqual(first, copied)
                state = first[1]
            rows = rows_for(seed, told[1], 3)
            self.assertEqual(run(told, rows), run(told, rows))
            self.assertEqual(rows, rows_for(seed, told[1], 3))
            self.assertEqual(told, kept)

    def test_run_goes_step_by_step(self):
        for seed in range(40):
            try:
                told = flat(made(seed))
            except LimitError:
                continue
            rows = rows_for(seed, told[1], 6)
            state = start(told)
            outputs = []
            for words in rows:
                row, state = step(told, state, words)
                outputs.append(row)
            self.assertEqual(run(told, rows), outputs)
            self.assertEqual(run(told, []), [])


class ExpressionsTest(unittest.TestCase):
    def value(self, text, width, words):
        told = circuit("in a: 4; in b: 4; in e: 1; mem m: 3 of 2 { } let w[0]: 4 = (a + b); reg r: 4 from 9 = r; "
                       f"out s: {width} = {text};")
        return run(told, [words])[0][0]

    def test_each(self):
        self.assertEqual(self.value("word(-3, 4)", 4, [0, 0, 0]), 13)
        self.assertEqual(self.value("a", 4, [11, 0, 0]), 11)
        self.assertEqual(self.value("w[0]", 4, [11, 7, 0]), 2)
        self.assertEqual(self.value("r", 4, [0, 0, 0]), 9)
        self.assertEqual(self.value("cut(a, 1, 2)", 2, [13, 0, 0]), 2)
        self.assertEqual(self.value("cut(a, 3, 1)", 1, [8, 0, 0]), 1)
        self.assertEqual(self.value("join(a, e, b)", 9, [5, 9, 1]), 5 + 16 + 9 * 32)
        self.assertEqual(self.value("join(e, a)", 5, [15, 0, 0]), 30)
        self.assertEqual(self.value("choose(e, a, b)", 4, [3, 4, 1]), 3)
        self.assertEqual(self.value("choose(e, a, b)", 4, [3, 4, 0]), 4)
        self.assertEqual(self.value("read(m, a)", 3, [1, 0, 0]), 0)
        self.assertEqual(self.value("read(m, a)", 3, [15, 0, 0]), 0)
        self.assertEqual(self.value("not(choose(e, (a - b), (a << b)))", 4, [3, 4, 1]), 0)
        self.assertEqual(self.value("not(choose(e, (a - b), (a << b)))", 4, [3, 1, 0]), 9)
        self.assertEqual(self.value("(join(a, b) >> b)", 8, [8, 3, 0]), 56 >> 3)
        self.assertEqual(self.value("odd(cut(join(a, b), 2, 4))", 1, [4, 2, 0]), 0)

    def test_signs(self):
        texts = {"and": "&", "or": "|", "xor": "^", "add": "+", "sub": "-", "mul": "*", "same": "==", "less": "<",
                 "shl": "<<", "shr": ">>"}
        for sign in SIGNS:
            text = f"(a {texts[sign]} b)" if arguments_of(sign) == 2 else f"{sign}(a)"
            for a, b in ((0, 0), (15, 15), (9, 3), (3, 9), (1, 4), (6, 1)):
                self.assertEqual(self.value(text, result_width(sign, 4), [a, b, 0]),
                                 calculate(sign, 4, [a, b][:arguments_of(sign)]))


class CyclesTest(unittest.TestCase):
    def test_registers_change_at_once(self):
        told = circuit("reg a: 2 from 1 = b; reg b: 2 from 2 = d; reg d: 2 from 3 = a; "
                       "out x: 2 = a; out y: 2 = b; out z: 2 = d;")
        self.assertEqual(run(told, [[]] * 4), [[1, 2, 3], [2, 3, 1], [3, 1, 2], [1, 2, 3]])

    def test_wires_follow_in_the_same_cycle(self):
        told = circuit("in i: 4; let y: 4 = (x + r); let x: 4 = not(i); reg r: 4 from 0 = y; out s: 4 = y; out t: 4 = x;")
        self.assertEqual(run(told, [[15], [14], [0], [12]]), [[0, 0], [1, 1], [0, 15], [3, 3]])

    def test_machines(self):
        told = circuit("in a: 1; in b: 1; machine f { x, y, z; x to y when a; x to z when b; y to x when b; y to y when a;"
                       " z to y when (a & b); y to z when word(1, 1); } out s: 3 = join(f is x, f is y, f is z);")
        rows = [[0, 0], [1, 1], [1, 0], [0, 1], [0, 1], [1, 0], [0, 1], [1, 1], [0, 0], [0, 0], [0, 0]]
        self.assertEqual([row[0] for row in run(told, rows)], [1, 1, 2, 2, 1, 4, 4, 4, 2, 4, 4])

    def test_a_machine_of_one_state(self):
        told = circuit("in a: 1; machine f { x; x to x when a; } out s: 1 = f is x;")
        self.assertEqual(run(told, [[1], [0], [1]]), [[1], [1], [1]])

    def test_memories(self):
        told = circuit("in w: 1; in a: 3; in d: 4; mem m: 4 of 5 { when w at a put d; } out s: 4 = read(m, a);")
        rows = [[1, 0, 7], [0, 0, 1], [1, 4, 9], [0, 4, 2], [1, 0, 3], [0, 0, 0], [0, 4, 0]]
        self.assertEqual([row[0] for row in run(told, rows)], [0, 7, 0, 9, 7, 3, 9])

    def test_beyond_the_depth(self):
        told = circuit("in w: 1; in a: 3; in d: 4; mem m: 4 of 5 { when w at a put d; } out s: 4 = read(m, a); "
                       "out t: 4 = read(m, word(0, 3)); out u: 4 = read(m, word(4, 3));")
        rows = [[1, 5, 7], [0, 5, 0], [1, 7, 9], [0, 7, 0], [0, 0, 0], [1, 4, 6], [0, 4, 0]]
        self.assertEqual(run(told, rows), [[0, 0, 0]] * 6 + [[6, 0, 6]])
        self.assertEqual(step(told, ("state", [], [[1, 2, 3, 4, 5]]), [1, 6, 15]),
                         ([0, 1, 5], ("state", [], [[1, 2, 3, 4, 5]])))

    def test_wide_addresses(self):
        told = circuit("in a: 16; mem m: 2 of 1 { when word(1, 1) at a put word(3, 2); } out s: 2 = read(m, a);")
        self.assertEqual(run(told, [[65535], [256], [1], [0], [0], [65535]]), [[0], [0], [0], [0], [3], [0]])

    def test_later_writes_win(self):
        told = circuit("in e: 1; in f: 1; in g: 1; mem m: 2 of 2 { when e at word(1, 1) put word(1, 2); "
                       "when f at word(1, 1) put word(2, 2); when g at f put word(3, 2); } "
                       "out s: 2 = read(m, word(0, 1)); out t: 2 = read(m, word(1, 1));")
        cases = [([1, 0, 0], [0, 1]), ([0, 1, 0], [0, 2]), ([1, 1, 0], [0, 2]), ([1, 1, 1], [0, 3]),
                 ([1, 0, 1], [3, 1]), ([0, 0, 1], [3, 0]), ([0, 0, 0], [0, 0])]
        for words, after in cases:
            self.assertEqual(run(told, [words, [0, 0, 0]]), [[0, 0], after])

    def test_writes_see_the_words_before(self):
        told = circuit("mem m: 2 of 2 { when word(1, 1) at word(0, 1) put (read(m, word(1, 1)) + word(1, 2)); "
                       "when word(1, 1) at word(1, 1) put read(m, word(0, 1)); } "
                       "out s: 2 = read(m, word(0, 1)); out t: 2 = read(m, word(1, 1));")
        self.assertEqual(run(told, [[]] * 6), [[0, 0], [1, 0], [1, 1], [2, 1], [2, 2], [3, 2]])

    def test_a_flat_circuit_of_other_names(self):
        told = ("flat", [("", 2)], [("1 2", 2, 3, ("name", 2, "?"))], [("", 2, 2, [])],
                [("?", 2, ("read", 2, "", ("name", 2, "")))],
                [("", 2, ("op", 2, "or", [("name", 2, "?"), ("name", 2, "1 2")]))])
        self.assertEqual(run(told, [[1], [2]]), [[3], [0]])

    def test_many_moves(self):
        """A machine of the most states and moves needs no deep recursion."""
        states = [f"s{k}" for k in range(64)]
        x = "i"
        for _ in range(28):
            x = "not(" + x + ")"
        moves = "".join(f"s{k} to s{(k + 1) % 64} when {x}; " for k in range(64))
        told = circuit("in i: 1; machine f { " + ", ".join(states) + "; " + moves + "} out s: 1 = f is s63;")
        outputs = run(told, [[1]] * 130)
        self.assertEqual([k for k in range(130) if outputs[k] == [1]], [63, 127])


if __name__ == "__main__":
    unittest.main()
