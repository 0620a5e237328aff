"""Section Nets (points 7.1 to 7.5) and nets.py of the interface."""

import unittest

from calling import called, with_item
from cellcloth.errors import KindError
from cellcloth.nets import check, depth, levels, needed, run, step, valued, values
from netmaking import all_rows, made_net, random_rows, small_nets

NET = ("net", 1, [0], [(2, 5), (3, 4), (7, 9)], [11], [4])
FULL = ("net", 2, [1, 0], [(2, 4), (7, 10), (12, 1)], [8, 3], [14, 0, 1, 15])


def plain_values(net, state, bits):
    """The values of all nodes, from the definition, each one alone."""
    def value(node):
        if node == 0:
            return 0
        if node <= net[1]:
            return bits[node - 1]
        if node <= net[1] + len(state):
            return state[node - 1 - net[1]]
        pair = net[3][node - 1 - net[1] - len(state)]
        return 1 if all(value(x // 2) != x % 2 for x in pair) else 0
    return [value(node) for node in range(1 + net[1] + len(state) + len(net[3]))]


class ValuesTest(unittest.TestCase):
    def test_example(self):
        self.assertEqual(called(self, values, NET, [0], [1]), [0, 1, 0, 1, 0, 0])
        self.assertEqual(called(self, run, NET, [[1], [1], [0]]), [[0], [1], [0]])
        self.assertEqual(called(self, depth, NET), 2)

    def test_nothing(self):
        net = ("net", 0, [], [], [], [])
        self.assertIsNone(called(self, check, net))
        self.assertEqual(values(net, [], []), [0])
        self.assertEqual(step(net, [], []), ([], []))
        self.assertEqual([run(net, []), run(net, [[], []])], [[], [[], []]])
        self.assertEqual([levels(net), depth(net), needed(net, [])], [[0], 0, []])

    def test_literals_0_and_1(self):
        net = ("net", 0, [1], [(1, 1), (0, 1)], [0], [0, 1, 4, 6, 2, 3])
        self.assertEqual(run(net, [[], []]), [[0, 1, 1, 0, 1, 0], [0, 1, 1, 0, 0, 1]])
        self.assertEqual([valued([0, 1], literal) for literal in range(4)], [0, 1, 1, 0])

    def test_against_the_definition(self):
        for net in small_nets(60):
            check(net)
            for state, bits in all_rows(net):
                row = called(self, values, net, state, bits)
                self.assertEqual(row, plain_values(net, state, bits))
                self.assertEqual([valued(row, x) for x in range(2 * len(row))],
                                 [bit for x in row for bit in (x, 1 - x)])
                told, after = called(self, step, net, state, bits)
                self.assertEqual(told, [valued(row, literal) for literal in net[5]])
                self.assertEqual(after, [valued(row, literal) for literal in net[4]])

    def test_runs(self):
        for seed in range(30):
            net = made_net(seed, 2, 3, 10, 3)
            rows = random_rows(seed, 2, 9)
            state = net[2]
            told = []
            for bits in rows:
                row, state = step(net, state, bits)
                told.append(row)
            self.assertEqual(called(self, run, net, rows), told)
        # All flops change at once.
        self.assertEqual(run(("net", 0, [0, 1], [], [4, 2], [2, 4]), [[]] * 3), [[0, 1], [1, 0], [0, 1]])


class CheckTest(unittest.TestCase):
    def fault(self, net):
        with self.assertRaises(KindError) as caught:
            check(net)
        return caught.exception.place

    def test_no_fault(self):
        for net in [NET, FULL, *small_nets(40)]:
            self.assertIsNone(called(self, check, net))

    def test_each_fault(self):
        for at in range(2):
            for start in (2, -1, 7):
                self.assertEqual(self.fault(with_item(FULL, 2, with_item(FULL[2], at, start))), f"start {at}")
        for at in range(3):
            for pin in range(2):
                for literal in (-1, -2, 2 * (5 + at), 2 * (5 + at) + 1, 99):
                    pair = with_item(FULL[3][at], pin, literal)
                    self.assertEqual(self.fault(with_item(FULL, 3, with_item(FULL[3], at, pair))), f"gate {at}")
                pair = with_item(FULL[3][at], pin, 2 * (5 + at) - 1)
                self.assertIsNone(check(with_item(FULL, 3, with_item(FULL[3], at, pair))))
        for nexts in ([], [8], [8, 3, 3]):
            self.assertEqual(self.fault(with_item(FULL, 4, nexts)), "nexts")
        for place, word, many in ((4, "next", 2), (5, "out", 4)):
            for at in range(many):
                for literal in (-1, 16, 17, 1000):
                    self.assertEqual(self.fault(with_item(FULL, place, with_item(FULL[place], at, literal))),
                                     f"{word} {at}")
                for literal in (0, 15):
                    self.assertIsNone(check(with_item(FULL, place, with_item(FULL[place], at, literal))))

    def test_the_first_of_several(self):
        net = ("net", 1, [0, 2, 3], [(0, 99), (98, 0)], [], [77, 78])
        self.assertEqual(self.fault(net), "start 1")
        net = with_item(net, 2, [0, 1, 1])
        self.assertEqual(self.fault(net), "gate 0")
        net = with_item(net, 3, [(0, 9), (98, 0)])
        self.assertEqual(self.fault(net), "gate 1")
        net = with_item(net, 3, [(0, 9), (8, 0)])
        self.assertEqual(self.fault(net), "nexts")
        net = with_item(net, 4, [0, 14, 15])
        self.assertEqual(self.fault(net), "next 1")
        net = with_item(net, 4, [0, 13, 12])
        self.assertEqual(self.fault(net), "out 0")
        net = with_item(net, 5, [13, 78])
        self.assertEqual(self.fault(net), "out 1")

    def test_inputs_alone(self):
        self.assertIsNone(check(("net", 3, [], [], [], [7, 6])))
        self.assertEqual(self.fault(("net", 3, [], [], [], [7, 8])), "out 1")
        self.assertEqual(self.fault(("net", 0, [], [(2, 0)], [], [])), "gate 0")
        self.assertEqual(self.fault(("net", 0, [], [], [0], [])), "nexts")


class LevelsTest(unittest.TestCase):
    def test_levels(self):
        self.assertEqual(called(self, levels, FULL), [0, 0, 0, 0, 0, 1, 2, 3])
        self.assertEqual(levels(("net", 1, [], [(2, 2), (4, 0), (6, 4)], [], [])), [0, 0, 1, 2, 3])

    def test_depth_heeds_nexts_and_outs_alone(self):
        net = ("net", 1, [0], [(2, 4), (6, 2), (8, 2)], [6], [])
        self.assertEqual(depth(net), 1)
        self.assertEqual(depth(with_item(net, 4, [9])), 2)
        self.assertEqual(depth(with_item(net, 5, [3, 11, 6])), 3)
        self.assertEqual(depth(with_item(net, 4, [0])), 0)

    def test_against_the_definition(self):
        for net in small_nets(60):
            found = [0] * (1 + net[1] + len(net[2]))
            for pair in net[3]:
                found.append(1 + max(found[x // 2] for x in pair))
            self.assertEqual(called(self, levels, net), found)
            self.assertEqual(called(self, depth, net), max([found[x // 2] for x in net[4] + net[5]], default=0))


class NeededTest(unittest.TestCase):
    def test_needed(self):
        self.assertEqual(called(self, needed, FULL, [14]), [0, 1, 2, 3, 5, 6, 7])
        self.assertEqual(needed(FULL, [8, 9]), [4])
        self.assertEqual(needed(FULL, [0]), [0])
        self.assertEqual(needed(FULL, [10, 3]), [1, 2, 5])

    def test_against_the_definition(self):
        for net in small_nets(60):
            base = 1 + net[1] + len(net[2])
            for literals in (net[5], net[4], [], [1]):
                found = {x // 2 for x in literals}
                for node in range(base + len(net[3]) - 1, base - 1, -1):
                    if node in found:
                        found |= {x // 2 for x in net[3][node - base]}
                self.assertEqual(called(self, needed, net, literals), sorted(found))


if __name__ == "__main__":
    unittest.main()
