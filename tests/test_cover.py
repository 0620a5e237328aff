"""Section Coverings (points 12.1 to 12.5) and cover.py of the interface."""

import unittest
from itertools import combinations

from calling import called, is_false, is_true, with_item
from cellcloth.cover import covered, covered_right, cut_bits
from cellcloth.nets import needed
from cellcloth.sweep import tidied
from netmaking import made_net, small_nets

NET = ("net", 3, [], [(2, 4), (3, 5), (9, 11), (6, 12)], [], [14])


def base_of(net):
    return 1 + net[1] + len(net[2])


def gates_of(net):
    return range(base_of(net), base_of(net) + len(net[3]))


def below(net, gate):
    return [x // 2 for x in net[3][gate - base_of(net)]]


def tidy_nets(many, gates=12, ins=4):
    for net in small_nets(many, gates, ins):
        yield tidied(net)[0]


def stops_all_ways(net, gate, cut):
    """Whether each way down from a gate that comes to an input or a flop comes to a node of the cut."""
    if gate in cut:
        return True
    return gate >= base_of(net) and all(stops_all_ways(net, node, cut) for node in below(net, gate))


def all_cuts(net, gate, k):
    """All cuts of a gate, by trying."""
    for size in range(k + 1):
        for cut in combinations(range(1, gate), size):
            if stops_all_ways(net, gate, cut):
                yield list(cut)


def plain_labels(net, k):
    """The labels of all nodes, by all cuts."""
    labels = [0] * base_of(net)
    for gate in gates_of(net):
        labels.append(1 + min(max(labels[node] for node in cut) for cut in all_cuts(net, gate, k)))
    return labels


def plain_bits(net, gate, cut):
    """Point 12.2, number by number."""
    told = 0
    for number in range(2 ** len(cut)):
        held = {node: number >> at & 1 for at, node in enumerate(cut)}

        def value(node):
            if node in held:
                return held[node]
            return min(value(x // 2) ^ (x % 2) for x in net[3][node - base_of(net)])

        told += value(gate) << number
    return told


def with_table(tables, at, **parts):
    gate, cut, bits = tables[at]
    return with_item(tables, at, (parts.get("gate", gate), parts.get("cut", cut), parts.get("bits", bits)))


class CoveredTest(unittest.TestCase):
    def test_example(self):
        self.assertEqual(called(self, cut_bits, NET, 6, [1, 2]), 6)
        tables, paper = called(self, covered, NET, 3)
        self.assertEqual(tables, [(7, [1, 2, 3], 96)])
        self.assertEqual(paper, ([1, 1, 1, 1], [None, None, None, None]))
        is_true(self, covered_right, NET, 3, tables, paper)
        self.assertEqual(covered(NET, 2)[1][0], [1, 1, 1, 2])

    def test_no_gates(self):
        for net in (("net", 0, [], [], [], []), ("net", 2, [1], [], [3], [6, 0, 1, 5])):
            for k in (2, 3, 4):
                self.assertEqual(called(self, covered, net, k), ([], ([], [])))
                is_true(self, covered_right, net, k, [], ([], []))
                is_false(self, covered_right, net, k, [(1, [], 0)], ([], []))
                is_false(self, covered_right, net, k, [], ([1], [None]))
                is_false(self, covered_right, net, k, [], ([], [None]))

    def check_covered(self, net, k):
        tables, paper = called(self, covered, net, k)
        self.assertIs(covered_right(net, k, tables, paper), True)
        labels, ways = paper
        gates = [gate for gate, _, _ in tables]
        self.assertEqual(gates, sorted(set(gates)))
        self.assertLessEqual(set(gates), set(needed(net, net[4] + net[5])))
        heights = dict.fromkeys(range(1, base_of(net)), 0)
        for gate, cut, bits in tables:
            self.assertTrue(len(cut) <= k and cut == sorted(set(cut)) and 0 not in cut)
            self.assertTrue(stops_all_ways(net, gate, cut))
            self.assertEqual(bits, plain_bits(net, gate, cut))
            heights[gate] = 1 + max(heights[node] for node in cut)
            self.assertEqual(heights[gate], labels[gate - base_of(net)])
        for literal in net[4] + net[5]:
            self.assertTrue(literal // 2 == 0 or literal // 2 in heights)
        self.assertEqual(len(ways), len(net[3]))
        self.assertEqual([way is None for way in ways], [label == 1 for label in labels])
        return labels

    def test_labels_by_trying_all_cuts(self):
        greatest = 0
        for net in tidy_nets(110, 14, 5):
            for k in (2, 3, 4):
                labels = self.check_covered(net, k)
                self.assertEqual(labels, plain_labels(net, k)[base_of(net):])
                greatest = max([greatest, *labels])
        for seed in range(60):
            net = tidied(made_net(seed, 6, 2, 24, 3, 5))[0]
            labels = self.check_covered(net, 2)
            self.assertEqual(labels, plain_labels(net, 2)[base_of(net):])
            greatest = max([greatest, *labels])
        self.assertGreater(greatest, 5)

    def test_gates_far_behind(self):
        """Chains, in which each gate needs one input more."""
        for many in (9, 60):
            gates = [(2, 4)] + [(2 * (many + k), 2 * (k + 2)) for k in range(1, many - 1)]
            net = ("net", many, [], gates, [], [2 * (many + len(gates))])
            for k in (2, 3, 4):
                labels = self.check_covered(net, k)
                # A table has one input for the chain, the first one has none.
                self.assertEqual(labels, [-(-(at + 1) // (k - 1)) for at in range(len(gates))])

    def test_200_gates(self):
        for seed, near in enumerate((4, 12, 40)):
            net = tidied(made_net(seed, 9, 9, 200, 30, near))[0]
            for k in (2, 3, 4):
                self.check_covered(net, k)

    def test_cut_bits(self):
        for net in tidy_nets(25, 7, 3):
            for gate in gates_of(net):
                for cut in all_cuts(net, gate, 4):
                    self.assertEqual(called(self, cut_bits, net, gate, cut), plain_bits(net, gate, cut))
        # A node of the cut that lies above another one has its own bit.
        self.assertEqual(cut_bits(NET, 6, [1, 2, 4]), plain_bits(NET, 6, [1, 2, 4]))
        self.assertEqual(cut_bits(NET, 4, [1, 2, 3]), 0b10001000)


class RightTest(unittest.TestCase):
    """The inputs 1 to 5; 6 is 1 & 2, 7 is 3 & 4, 8 is 6 & 7, 9 is 8 & 5, and 10 is 6 & ~5, which nobody needs."""

    NET = ("net", 5, [], [(2, 4), (6, 8), (12, 14), (16, 10), (12, 11)], [], [18])
    TABLES = [(6, [1, 2], 8), (8, [3, 4, 6], 128), (9, [5, 8], 8)]
    LABELS = [1, 1, 2, 2, 1]
    WAYS = [None, None, [[1], [2], [3], [4]], [[1], [2], [3], [4]], None]

    def setUp(self):
        self.tables, self.paper = covered(self.NET, 3)
        self.labels, self.ways = self.paper

    def right(self, tables=None, labels=None, ways=None):
        return called(self, covered_right, self.NET, 3, self.tables if tables is None else tables,
                      (self.labels if labels is None else labels, self.ways if ways is None else ways))

    def test_the_net_of_these_tests(self):
        self.assertEqual((self.labels, [way is None for way in self.ways]), (self.LABELS, [True, True, False, False, True]))
        self.assertIs(self.right(), True)
        self.assertIs(self.right(ways=self.WAYS), True)

    def test_other_coverings(self):
        """Cuts with the same heights, and tables for gates that nobody needs."""
        six, seven = (6, [1, 2], 8), (7, [3, 4], 8)
        for tables in ([six, seven, (9, [5, 6, 7], 128)],
                       [six, seven, (8, [6, 7], 8), (9, [5, 6, 7], 128)],
                       [six, seven, (9, [5, 6, 7], 128), (10, [1, 2, 5], 8)],
                       [(6, [1, 2, 3], 136), seven, (9, [5, 6, 7], 128)]):
            self.assertIs(self.right(tables=tables), True)

    def test_wrong_heights(self):
        six, seven = (6, [1, 2], 8), (7, [3, 4], 8)
        # The gate 9 can have the height 2, and has 3 here; so has the gate 10 the height 2 and could have 1.
        self.assertIs(self.right(tables=[six, seven, (8, [6, 7], 8), (9, [5, 8], 8)]), False)
        self.assertIs(self.right(tables=[six, seven, (9, [5, 6, 7], 128), (10, [5, 6], 4)]), False)

    def test_wrong_gates(self):
        six, seven, nine = (6, [1, 2], 8), (7, [3, 4], 8), (9, [5, 6, 7], 128)
        self.assertIs(self.right(tables=[six, seven, nine]), True)
        for tables in ([seven, six, nine], [six, nine, seven], [six, six, seven, nine], [six, seven, seven, nine],
                       [six, seven, nine, nine], [six, seven], [], [six, nine], [seven, nine],
                       [six, seven, nine, (11, [1], 2)], [(5, [1], 2), six, seven, nine], [(0, [], 0), six, seven, nine],
                       [(-1, [], 0), six, seven, nine], [six, seven, nine, (100, [1], 2)]):
            self.assertIs(self.right(tables=tables), False)

    def test_wrong_cuts(self):
        six, seven, nine = (6, [1, 2], 8), (7, [3, 4], 8), (9, [5, 6, 7], 128)
        tables = [six, seven, nine]
        for cut in ([5, 7, 6], [5, 5, 6, 7], [5, 6, 6], [5, 6], [6, 7], [5], [], [0, 5, 6, 7], [0, 6, 7], [5, 6, 7, 7],
                    [5, 8], [5, 6, 8], [5, 6, 7, 8], [1, 2, 5, 7], [1, 5, 7], [5, 6, 9], [9], [5, 6, 10], [5, 6, 11],
                    [-1, 5, 6], [5, 6, 100], [2, 5, 7]):
            for bits in (128, 8, 0, 32768):
                self.assertIs(self.right(tables=with_table(tables, 2, cut=cut, bits=bits)), False)
        for cut in ([2, 1], [1], [1, 1, 2], [0, 1, 2], [1, 3], [6], [1, 6], [1, 2, 6], [1, 2, 7], [1, 2, 3, 4], []):
            for bits in (8, 128, 2, 136):
                self.assertIs(self.right(tables=with_table(tables, 0, cut=cut, bits=bits)), False)

    def test_wrong_bits(self):
        tables = [(6, [1, 2], 8), (7, [3, 4], 8), (9, [5, 6, 7], 128)]
        for at, right in ((0, 8), (1, 8), (2, 128)):
            for wrong in [right ^ (1 << bit) for bit in range(10)] + [-right, right + 65536, ~right, 0]:
                self.assertIs(self.right(tables=with_table(tables, at, bits=wrong)), False)

    def test_nexts_and_outs_without_tables(self):
        net = ("net", 2, [0], [(2, 4), (3, 6)], [8], [11])
        tables, paper = covered(net, 2)
        self.assertEqual([gate for gate, _, _ in tables], [4, 5])
        is_true(self, covered_right, net, 2, tables, paper)
        is_false(self, covered_right, net, 2, tables[:1], paper)
        is_false(self, covered_right, net, 2, tables[1:], paper)

    def test_wrong_labels(self):
        for at, label in enumerate(self.LABELS):
            for wrong in (label - 1, label + 1, -1, 0, 100):
                if wrong != label:
                    labels = with_item(self.LABELS, at, wrong)
                    self.assertIs(self.right(labels=labels), False)
                    for way in (None, self.WAYS[2], []):
                        self.assertIs(self.right(labels=labels, ways=with_item(self.WAYS, at, way)), False)
        for labels in (self.LABELS[:-1], self.LABELS + [1], []):
            self.assertIs(self.right(labels=labels), False)

    def test_labels_that_are_too_great_alone(self):
        """A covering of the heights that are told, and labels that agree with it, but no ways."""
        net = ("net", 3, [], [(2, 4), (8, 6)], [], [10])
        tables = [(4, [1, 2], 8), (5, [3, 4], 8)]
        for ways in ([[1], [2], [3]], [[1], [2], [3], [4]], [[1], [2], [3], [3]], None, []):
            is_false(self, covered_right, net, 3, tables, ([1, 2], [None, ways]))
        is_true(self, covered_right, net, 2, tables, ([1, 2], [None, [[1], [2], [3]]]))

    def test_wrong_numbers_of_ways(self):
        for ways in (self.WAYS[:-1], self.WAYS + [None], [], self.WAYS[::-1]):
            self.assertIs(self.right(ways=ways), False)

    def test_none_and_ways_in_wrong_places(self):
        for at in (2, 3):
            self.assertIs(self.right(ways=with_item(self.WAYS, at, None)), False)
        for at in (0, 1, 4):
            for way in ([], [[]], [[1], [2], [3], [4]], [[1], [2], [3], [5]]):
                self.assertIs(self.right(ways=with_item(self.WAYS, at, way)), False)

    def test_wrong_ways(self):
        for ways in ([], [[1], [2], [3]], [[1], [2], [3], [4], [5]], [[], [2], [3], [4]], [[1], [2], [3], []],
                     [[1], [2], [3], [3]], [[1], [1], [3], [4]], [[6], [2], [3], [4]], [[0], [2], [3], [4]],
                     [[1], [2], [3], [7]], [[1, 6], [2], [3], [4]], [[1, 1], [2], [3], [4]], [[1, 2], [3], [4], [5]],
                     [[-1], [2], [3], [4]], [[2, 1], [3], [4], [5]], [[1], [2], [3, 1], [4]], [[1], [2], [3], [11]], [[1], [2], [3], [100]]):
            for at in (2, 3):
                self.assertIs(self.right(ways=with_item(self.WAYS, at, ways)), False)
        # 5 is in a literal of 9, but not of a gate that 8 needs; 10 is no gate that 9 needs.
        five = [[1], [2], [3], [5]]
        self.assertIs(self.right(ways=with_item(self.WAYS, 2, five)), False)
        self.assertIs(self.right(ways=with_item(self.WAYS, 3, five)), True)
        self.assertIs(self.right(ways=with_item(self.WAYS, 3, [[5], [4], [2], [1]])), True)

    def test_ways_through_gates(self):
        """Labels of 3 at k 2: the ways go through gates with the label 1, and end below those with the label 2."""
        many = 0
        for seed in range(40):
            net = tidied(made_net(seed, 6, 2, 24, 3, 5))[0]
            tables, (labels, ways) = covered(net, 2)
            for at, told in enumerate(ways):
                if told is None or max(len(way) for way in told) < 2:
                    continue
                many += 1
                for k, way in enumerate(told):
                    for wrong in (way[1:], way[:1] + way[2:], way[::-1], way + [way[-1]], way[:-1]):
                        changed = with_item(told, k, wrong)
                        expected = self.ways_right(net, base_of(net) + at, labels, changed)
                        self.assertIs(covered_right(net, 2, tables, (labels, with_item(ways, at, changed))), expected)
        self.assertGreater(many, 30)

    def ways_right(self, net, gate, labels, ways):
        base = base_of(net)
        label = labels[gate - base]
        told = [node for way in ways for node in way]
        if [] in ways or len(told) != len(set(told)) or len(ways) != 3:
            return False
        ends = [end for end in needed(net, [2 * gate]) if end == gate or end >= base and labels[end - base] >= label - 1]
        for way in ways:
            if not 0 < way[0] < base or any(node >= base and labels[node - base] > label - 2 for node in way):
                return False
            if any(node < base or before not in below(net, node) for before, node in zip(way, way[1:])):
                return False
            if not any(way[-1] in below(net, end) for end in ends):
                return False
        return True

    def test_other_ks(self):
        tables, paper = covered(NET, 3)
        is_false(self, covered_right, NET, 2, tables, paper)
        is_true(self, covered_right, NET, 4, tables, paper)


if __name__ == "__main__":
    unittest.main()
