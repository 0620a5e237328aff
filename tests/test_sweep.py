"""Section Small nets (points 10.1 to 10.5) and sweep.py of the interface."""

import unittest
from random import Random

from calling import called, is_false, is_true, with_item
from cellcloth.elaborate import flat
from cellcloth.gates import blast
from cellcloth.nets import check, run, valued, values
from cellcloth.parsing import parse
from cellcloth.solver import solve
from cellcloth.sweep import swept, swept_right, tidied
from netmaking import all_rows, columns, made_net, random_rows, small_nets

NET = ("net", 2, [], [(2, 4), (4, 2), (6, 9), (3, 5)], [], [10, 13])


def net_of(text):
    return blast(flat(parse(text)))


def plainly_tidied(net):
    """Points 10.1 and 10.2, word by word."""
    _, ins, starts, gates, nexts, outs = net
    base = 1 + ins + len(starts)
    stands = {node: 2 * node for node in range(base)}
    made = []

    def of(literal):
        return stands[literal // 2] ^ (literal % 2)

    for k, pair in enumerate(gates):
        low, high = sorted(of(x) for x in pair)
        if low == high:
            told = low
        elif high == low ^ 1 or low == 0:
            told = 0
        elif low == 1:
            told = high
        elif (low, high) in made:
            told = 2 * (base + made.index((low, high)))
        else:
            made.append((low, high))
            told = 2 * (base + len(made) - 1)
        stands[base + k] = told
    nexts = [of(x) for x in nexts]
    outs = [of(x) for x in outs]
    found = set()
    todo = [x // 2 for x in outs]
    while todo:
        node = todo.pop()
        if node not in found:
            found.add(node)
            if node >= base:
                todo += [x // 2 for x in made[node - base]]
            elif node > ins:
                todo.append(nexts[node - ins - 1] // 2)
    kept = [node for node in range(base + len(made)) if node <= ins or node in found]
    number = {node: k for k, node in enumerate(kept)}

    def again(literals):
        return [2 * number[x // 2] + x % 2 for x in literals]

    flops = [node - ins - 1 for node in kept if ins < node < base]
    return ("net", ins, [starts[k] for k in flops], [tuple(again(made[node - base])) for node in kept if node >= base],
            again(nexts[k] for k in flops), again(outs)), flops


class TidiedTest(unittest.TestCase):
    def test_example(self):
        self.assertEqual(called(self, tidied, NET), (("net", 2, [], [(3, 5)], [], [0, 7]), []))

    def outs_of(self, pair):
        """What stands for a gate of these two literals, with the inputs 1 and 2 and the gate 3 of both."""
        net, _ = called(self, tidied, ("net", 2, [], [(2, 4), pair], [], [8, 9, 6]))
        return net[5][0], net[3]

    def test_each_case(self):
        both = [(2, 4)]
        for x in (2, 3, 5, 6, 7):
            self.assertEqual(self.outs_of((x, x)), (x, both))
            self.assertEqual(self.outs_of((x, x ^ 1)), (0, both))
            for pair in ((0, x), (x, 0)):
                self.assertEqual(self.outs_of(pair), (0, both))
            for pair in ((1, x), (x, 1)):
                self.assertEqual(self.outs_of(pair), (x, both))
        for pair, told in (((0, 0), 0), ((1, 1), 1), ((0, 1), 0), ((1, 0), 0)):
            self.assertEqual(self.outs_of(pair), (told, both))
        for pair in ((2, 4), (4, 2)):
            self.assertEqual(self.outs_of(pair), (6, both))
        for pair in ((5, 2), (2, 5)):
            self.assertEqual(self.outs_of(pair), (8, both + [(2, 5)]))
        self.assertEqual(self.outs_of((7, 2)), (8, both + [(2, 7)]))

    def test_what_stands_for_a_literal(self):
        # The gate 4 stands for 5, turned; so the gate 5 has the literals 3 and 4, and the gate 6 is the gate 5 again.
        net = ("net", 2, [], [(4, 2), (4, 1), (7, 9), (5, 7), (6, 10), (10, 2)], [], [8, 10, 12, 14, 16])
        self.assertEqual(called(self, tidied, net), plainly_tidied(net))

    def test_flops_that_nobody_needs(self):
        # 1 is an input, 2 to 6 are flops: 2 is told, 3 is its next, 4 needs itself, 5 and 6 need one another.
        net = ("net", 1, [1, 0, 1, 1, 0], [(8, 10), (2, 6)], [7, 16, 14, 13, 10], [4])
        self.assertEqual(called(self, tidied, net), (("net", 1, [1, 0], [(2, 6)], [7, 8], [4]), [0, 1]))
        self.assertEqual(tidied(with_item(net, 5, [])), (("net", 1, [], [], [], []), []))
        self.assertEqual(tidied(with_item(net, 5, [3, 0, 1])), (("net", 1, [], [], [], [3, 0, 1]), []))
        self.assertEqual(tidied(with_item(net, 5, [13]))[1], [3, 4])
        self.assertEqual(tidied(with_item(net, 5, [9]))[1], [2, 3, 4])
        # A flop whose next is a gate of itself alone.
        self.assertEqual(tidied(("net", 1, [1], [(2, 4)], [6], [2])), (("net", 1, [], [], [], [2]), []))

    def test_tidy_nets_stay(self):
        for net in small_nets(150):
            made, flops = called(self, tidied, net)
            check(made)
            self.assertEqual(tidied(made), (made, list(range(len(made[2])))))

    def test_against_the_words(self):
        for net in small_nets(300, 25, 4, 6):
            made, flops = called(self, tidied, net)
            self.assertEqual((made, flops), plainly_tidied(net))
            rows = random_rows(1, net[1], 12)
            self.assertEqual(run(made, rows), run(net, rows))


class SweptTest(unittest.TestCase):
    def check_swept(self, net):
        other, paper = called(self, swept, net)
        check(other)
        self.assertEqual(other[1:3], net[1:3])
        self.assertLessEqual(len(other[3]), len(net[3]))
        self.assertIs(swept_right(net, other, paper), True)
        self.assertEqual(len(paper[0]), len(net[3]))
        for _, proof in paper[0]:
            self.assertTrue(proof is None or proof[-1] == [])
        return other, paper

    def test_example(self):
        other, paper = called(self, swept, NET)
        is_true(self, swept_right, NET, other, paper)

    def test_by_trying_all(self):
        for net in small_nets(250, 20, 4, 3):
            other, paper = self.check_swept(net)
            told = columns(other)
            turned = [tuple(1 - bit for bit in column) for column in told]
            self.assertEqual(len(set(told)), len(told))
            self.assertFalse(set(told) & set(turned))
            for state, bits in all_rows(net):
                row = values(net, state, bits)
                others = values(other, state, bits)
                for literals, images in ((net[4], other[4]), (net[5], other[5])):
                    self.assertEqual([valued(row, x) for x in literals], [valued(others, x) for x in images])
                for k, (literal, _) in enumerate(paper[0]):
                    self.assertEqual(row[len(row) - len(net[3]) + k], valued(others, literal))

    def test_nothing(self):
        for net in (("net", 0, [], [], [], []), ("net", 3, [1, 0], [], [3, 0], [1, 8])):
            self.assertEqual(self.check_swept(net)[0], net)

    def test_wide_ones(self):
        """More inputs than all of whose values can be looked at."""
        net = net_of("part c() { in a: 16; in b: 16; reg r: 8 from 3 = cut((a + b), 4, 8); "
                     "out s: 1 = ((a + b) == (b + a)); out t: 16 = (((a ^ b) + ((a & b) << word(1, 1))) - a); "
                     "out u: 1 = all(a); out v: 1 = (any(a) & all((a & b))); out w: 8 = (r ^ cut(b, 1, 8)); } top c();")
        other, paper = self.check_swept(net)
        self.assertEqual(other[5][0], 1)
        self.assertEqual(other[5][1:17], [2 * node for node in range(17, 33)])
        self.assertLess(len(paper[1]), 200)

    def test_products(self):
        for width in (2, 3, 4):
            net = net_of(f"part c() {{ in a: {width}; in b: {width}; out s: {width} = ((a * b) - (b * a)); "
                         f"out t: 1 = ((a * b) == (b * a)); }} top c();")
            other, _ = self.check_swept(net)
            self.assertEqual(other[5], [0] * width + [1])

    def test_long_conjunctions(self):
        """Gates that are 1 for just one of many values are no constants."""
        for seed in range(4):
            order = list(range(1, 25))
            gates = []
            for k in range(3):
                Random(seed + k).shuffle(order)
                last = 2 * order[0]
                for at in order[1:]:
                    gates.append((last, 2 * at + (at == seed + 1 and k == 2)))
                    last = 2 * (24 + len(gates))
            other, _ = self.check_swept(("net", 24, [], gates, [], [2 * (24 + 23), 2 * (24 + 46), 2 * (24 + 69)]))
            self.assertEqual(other[5][0], other[5][1])
            self.assertNotEqual(other[5][0] // 2, other[5][2] // 2)

    def test_untidy_ones(self):
        net = ("net", 1, [0], [(0, 1), (1, 2), (2, 2), (3, 2), (4, 2), (2, 4), (13, 12), (11, 1), (17, 19)], [18], [20, 21])
        self.check_swept(net)
        for seed in range(20):
            self.check_swept(made_net(seed, 1, 1, 60, 4))


class SweptRightTest(unittest.TestCase):
    """The gates 3 and 4 are a & b and a & ~b, 5 is neither, 6 is a & ~5 and 7 is 5 & 6: so 6 is a, and 7 is 0."""

    NET = ("net", 2, [], [(2, 4), (2, 5), (7, 9), (2, 11), (10, 12)], [], [13, 14, 10])
    OTHER = ("net", 2, [], [(2, 4), (2, 5), (7, 9)], [], [3, 0, 10])

    def setUp(self):
        self.other, self.paper = swept(self.NET)
        self.images, self.rows = self.paper

    def right(self, other=None, images=None, rows=None):
        return called(self, swept_right, self.NET, self.other if other is None else other,
                      (self.images if images is None else images, self.rows if rows is None else rows))

    def test_the_net_of_these_tests(self):
        # Here 5 is ~a, so the other net has the gates a & b and a & ~b alone.
        self.assertEqual(self.other, ("net", 2, [], [(2, 4), (2, 5)], [], [3, 0, 3]))
        self.assertEqual([literal for literal, _ in self.images], [6, 8, 3, 2, 0])
        self.assertEqual([proof is None for _, proof in self.images], [True, True, False, True, True])
        self.assertIs(self.right(), True)

    def test_more_rows_and_other_orders(self):
        all_of_them = [([], [a, b]) for a in (0, 1) for b in (0, 1)]
        for rows in (all_of_them, all_of_them[::-1] * 3, self.rows[::-1], self.rows + self.rows[:1]):
            self.assertIs(self.right(rows=rows), True)

    def test_rows_that_do_not_tell_apart(self):
        for rows in ([], self.rows[:1], [([], [0, 0]), ([], [1, 1])], [([], [1, 0]), ([], [0, 0]), ([], [1, 0])]):
            self.assertIs(self.right(rows=rows), False)
        for at in range(len(self.rows)):
            self.assertIs(self.right(rows=self.rows[:at] + self.rows[at + 1:]), False)
        # Rows in which two nodes always differ tell them apart no more than those in which they never do.
        net = ("net", 2, [], [], [], [])
        is_false(self, swept_right, net, net, ([], [([], [0, 1]), ([], [1, 0]), ([], [1, 0])]))
        is_true(self, swept_right, net, net, ([], [([], [0, 1]), ([], [1, 1]), ([], [0, 0])]))
        is_false(self, swept_right, net, net, ([], [([], [0, 1]), ([], [0, 0])]))
        nothing = ("net", 0, [], [], [], [0])
        for rows in ([], [([], [])], [([], [])] * 3):
            is_true(self, swept_right, nothing, nothing, ([], rows))

    def test_rows_of_states(self):
        net = ("net", 1, [0], [], [4], [2])
        is_true(self, swept_right, net, net, ([], [([0], [0]), ([1], [0]), ([0], [1])]))
        is_false(self, swept_right, net, net, ([], [([0], [0]), ([1], [1]), ([0], [0])]))

    def test_literals_of_gates_in_another_order(self):
        for gates in ([(4, 2), (2, 5)], [(2, 4), (5, 2)], [(4, 2), (5, 2)]):
            self.assertIs(self.right(other=with_item(self.other, 3, gates)), True)
        # Likewise other numbers of gates, where the images have these.
        other = with_item(self.other, 3, [(2, 5), (2, 4)])
        images = [(8, None), (6, None), *self.images[2:]]
        self.assertIs(self.right(other=other), False)
        self.assertIs(self.right(other=other, images=images), True)

    def test_longer_proofs(self):
        literal, proof = self.images[2]
        for made in ([[2, -2], *proof], [[2], *proof], [[-6, 70], [7, -7], *proof], [*proof[:-1], [], [], []],
                     [[-2, 4, 5, 99, -99], *proof]):
            self.assertIs(self.right(images=with_item(self.images, 2, (literal, made))), True)

    def test_proofs_where_none_is_needed(self):
        clauses = [[-1], [-4, 2], [-4, 3], [4, -2, -3], [-5, 2], [-5, -3], [5, -2, 3]]
        for at, (x, y, z) in ((0, (2, 3, 4)), (1, (2, -3, 5)), (3, (2, 2, 2)), (4, (-2, 2, 1))):
            more = [[-6, x], [-6, y], [6, -x, -y], [6, z], [-6, -z]]
            answer, proof = solve(clauses + more, 6)
            self.assertEqual(answer, "no")
            self.assertIs(self.right(images=with_item(self.images, at, (self.images[at][0], proof))), True)

    def test_wrong_proofs(self):
        literal, proof = self.images[2]
        for made in (None, [], [[]], [[1]], proof[:-1], [*proof, [2]], [[0], *proof], [*proof, [0], []], [[7], *proof],
                     [[-7, 8], *proof], [[3], *proof], [[-3], *proof], [[-1, 1], [3], *proof]):
            self.assertIs(self.right(images=with_item(self.images, 2, (literal, made))), False)
        for at in (0, 1, 3, 4):
            self.assertIs(self.right(images=with_item(self.images, at, (self.images[at][0], []))), False)
            self.assertIs(self.right(images=with_item(self.images, at, (self.images[at][0], [[7], [8]]))), False)
            self.assertIs(self.right(images=with_item(self.images, at, (self.images[at][0], [[0], []]))), False)

    def test_wrong_literals(self):
        for at, (literal, proof) in enumerate(self.images):
            for wrong in [x for x in range(10) if x != literal] + [-1, -2, 10, 11, 12, 100]:
                for made in (None, proof, [[]], [[-6], []], [[6], []]):
                    images = with_item(self.images, at, (wrong, made))
                    self.assertIs(self.right(images=images), False)

    def test_wrong_lengths(self):
        self.assertIs(self.right(images=[]), False)
        self.assertIs(self.right(images=self.images[:-1]), False)
        self.assertIs(self.right(images=self.images + [(0, None)]), False)
        self.assertIs(self.right(images=self.images + self.images[-1:]), False)
        self.assertIs(self.right(other=with_item(self.other, 5, [3, 0])), False)
        self.assertIs(self.right(other=with_item(self.other, 5, [3, 0, 3, 3])), False)

    def test_wrong_nets(self):
        for outs in ([2, 0, 3], [3, 1, 3], [3, 0, 2], [3, 0, 8]):
            self.assertIs(self.right(other=with_item(self.other, 5, outs)), False)
        for gates in ([(2, 4)], [], [(2, 4), (2, 4)], [(2, 4), (3, 5)], [(2, 4), (2, 5), (2, 5)],
                      [(2, 4), (2, 5), (6, 8)], [(2, 4), (2, 5), (2, 2)], [(2, 4), (4, 3)]):
            self.assertIs(self.right(other=with_item(self.other, 3, gates)), False)
        # A gate more that agrees with nothing is no fault.
        other = with_item(self.other, 3, [(2, 4), (2, 5), (3, 4)])
        last = [[7 if v == 6 else -7 if v == -6 else v for v in clause] for clause in self.images[2][1]]
        images = with_item(self.images, 2, (3, last))
        all_of_them = [([], [a, b]) for a in (0, 1) for b in (0, 1)]
        self.assertIs(self.right(other=other, images=images, rows=all_of_them), True)

    def test_faults_of_the_other_net(self):
        for at, made in ((3, [(2, 4), (2, 9)]), (3, [(2, 4), (-2, 5)]), (4, [0]), (5, [3, 0, 99]), (5, [3, 0, -1]),
                         (2, [0]), (1, 3), (1, 1), (3, [(6, 4), (2, 5)])):
            self.assertIs(self.right(other=with_item(self.other, at, made)), False)

    def test_faults_of_gates_that_nobody_needs(self):
        all_of_them = [([], [a, b]) for a in (0, 1) for b in (0, 1)]
        last = [[7 if v == 6 else -7 if v == -6 else v for v in clause] for clause in self.images[2][1]]
        images = with_item(self.images, 2, (3, last))
        for pair, expected in (((3, 4), True), ((3, 98), False), ((98, 3), False), ((-3, 4), False), ((4, -1), False),
                               ((10, 4), False), ((11, 4), False), ((3, 12), False)):
            other = with_item(self.other, 3, [(2, 4), (2, 5), pair])
            self.assertIs(self.right(other=other, images=images, rows=all_of_them), expected)

    def test_another_number_of_inputs_alone(self):
        net = ("net", 1, [], [], [], [2])
        wider = ("net", 2, [], [], [], [2])
        rows = [([], [0, 0]), ([], [0, 1]), ([], [1, 0])]
        is_true(self, swept_right, wider, wider, ([], rows))
        is_false(self, swept_right, net, wider, ([], rows))
        is_false(self, swept_right, wider, net, ([], rows))
        # One input more in the place of a flop.
        flop = ("net", 1, [0], [], [2], [4])
        is_false(self, swept_right, flop, ("net", 2, [], [], [], [4]), ([], rows))

    def test_starts_inputs_and_nexts(self):
        net = ("net", 1, [0, 1], [(2, 4)], [8, 7], [6])
        other, paper = swept(net)
        is_true(self, swept_right, net, other, paper)
        for at, made in ((2, [1, 1]), (2, [0, 0]), (2, [0]), (2, [0, 1, 0]), (1, 2), (1, 0), (4, [8, 6]), (4, [8]),
                         (4, [8, 7, 7]), (4, [9, 7]), (5, [7]), (2, [0, 2])):
            is_false(self, swept_right, net, with_item(other, at, made), paper)

    def test_papers_of_swept(self):
        for net in small_nets(120, 15):
            other, paper = swept(net)
            is_true(self, swept_right, net, other, paper)
            images, rows = paper
            for at, (literal, proof) in enumerate(images):
                is_false(self, swept_right, net, other, (with_item(images, at, (literal ^ 1, proof)), rows))
                if proof is not None:
                    is_false(self, swept_right, net, other, (with_item(images, at, (literal, None)), rows))


if __name__ == "__main__":
    unittest.main()
