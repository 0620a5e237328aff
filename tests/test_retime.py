"""Section Moved flops (points 11.1 to 11.7) and retime.py of the interface."""

import unittest
from itertools import product
from random import Random

from calling import called, is_false, is_true, with_item
from cellcloth.nets import check, run, step, values
from cellcloth.retime import moved, origin, period, retimed, retimed_right
from netmaking import made_net, random_rows, small_nets

NET = ("net", 1, [1, 0], [(4, 7), (9, 3)], [2, 4], [10])


def base_of(net):
    return 1 + net[1] + len(net[2])


def gates_of(net):
    return range(base_of(net), base_of(net) + len(net[3]))


def bound_flops(net):
    """The nodes of the flops from which no way leads to another kind of node."""
    flops = range(1 + net[1], base_of(net))
    bound = set()
    for flop in flops:
        node = flop
        for _ in flops:
            if node in flops:
                node = net[4][node - 1 - net[1]] // 2
        if node in flops:
            bound.add(flop)
    return bound


def plain_origin(net, literal):
    """Point 11.1, step by step: the literal and the weight."""
    bound = bound_flops(net)
    weight = 0
    while net[1] < literal // 2 < base_of(net) and literal // 2 not in bound:
        literal = net[4][literal // 2 - 1 - net[1]] ^ (literal % 2)
        weight += 1
    return literal, weight


def new_weights(net, lags):
    """By gates and pins, the origin and the new weight."""
    lag = dict(zip(gates_of(net), lags))
    found = {}
    for gate, pair in zip(gates_of(net), net[3]):
        for pin, literal in enumerate(pair):
            told, weight = plain_origin(net, literal)
            found[(gate, pin)] = (told // 2, weight + lag.get(told // 2, 0) - lag[gate])
    return found


def allowed(net, lags):
    return all(lag >= 0 for lag in lags) and all(weight >= 0 for _, weight in new_weights(net, lags).values())


def plain_levels(net, lags):
    weights = new_weights(net, lags)
    found = {}

    def level(gate):
        if gate not in found:
            below = [weights[(gate, pin)] for pin in (0, 1)]
            found[gate] = 1 + max([level(node) for node, weight in below if weight == 0 and node in gates_of(net)],
                                  default=0)
        return found[gate]

    for gate in gates_of(net):
        level(gate)
    return found


def plain_period(net, lags):
    return max(plain_levels(net, lags).values(), default=0)


def values_in_cycles(net, many):
    """The values of all nodes in so many cycles from the start, with inputs 0."""
    found = []
    state = net[2]
    for _ in range(many):
        found.append(values(net, state, [0] * net[1]))
        state = step(net, state, [0] * net[1])[1]
    return found


def plainly_moved(net, lags):
    """Point 11.4, word by word."""
    _, ins, starts, gates, nexts, outs = net
    base = base_of(net)
    lag = dict(zip(gates_of(net), lags))
    cycles = values_in_cycles(net, 40)
    levels = plain_levels(net, lags)
    order = sorted(gates_of(net), key=lambda gate: (levels[gate], gate))
    bound = sorted(bound_flops(net))
    flops = [("bound", node, starts[node - 1 - ins]) for node in bound]
    ends = []
    uses = [(literal, lag[gate]) for gate in order for literal in gates[gate - base]]
    for literal, first in uses + [(literal, 0) for literal in outs]:
        told, weight = plain_origin(net, literal)
        weight += lag.get(told // 2, 0) - first
        bits = [cycles[first + k][literal // 2] ^ (literal % 2) ^ (told % 2) for k in range(weight)]
        keeps = ("node", told // 2)
        for bit in reversed(bits):
            if ("new", keeps, bit) not in flops:
                flops.append(("new", keeps, bit))
            keeps = ("flop", flops.index(("new", keeps, bit)))
        ends.append((keeps, told % 2))

    def literal_of(end):
        (kind, which), odd = end
        if kind == "flop":
            return 2 * (1 + ins + which) + odd
        if which in bound:
            return 2 * (1 + ins + bound.index(which)) + odd
        if which >= base:
            return 2 * (1 + ins + len(flops) + order.index(which)) + odd
        return 2 * which + odd

    literals = [literal_of(end) for end in ends]
    told_nexts = []
    for kind, what, _ in flops:
        if kind == "bound":
            literal = nexts[what - 1 - ins]
            told_nexts.append(literal_of((("node", literal // 2), literal % 2)))
        else:
            told_nexts.append(literal_of((what, 0)))
    many = 2 * len(gates)
    return ("net", ins, [bit for _, _, bit in flops], list(zip(literals[:many:2], literals[1:many:2])), told_nexts,
            literals[many:])


def some_lags(seed, net, many, most=3):
    """Different lags that are allowed."""
    random = Random(seed)
    found = [[0] * len(net[3])]
    for _ in range(200):
        lags = [random.choice((0, 0, random.randint(0, most))) for _ in net[3]]
        # Raise what is too low for the others.
        for _ in range(8):
            for (gate, _), (node, weight) in new_weights(net, lags).items():
                if weight < 0 and node in gates_of(net):
                    lags[node - base_of(net)] -= weight
        if allowed(net, lags) and lags not in found:
            found.append(lags)
        if len(found) > many:
            break
    return found


def chain(many, flops):
    """A row of gates behind a row of flops."""
    last = 2 * (1 + flops)
    gates = []
    for k in range(many):
        gates.append((last, last))
        last = 2 * (2 + flops + k)
    return ("net", 1, [k % 2 for k in range(flops)], gates, [2 * (1 + k) for k in range(flops)], [last])


def ring(many, flops):
    """A ring of gates and flops, without any input."""
    first = 1 + flops
    gates = [(2 * flops, 2 * flops)] + [(2 * (first + k), 2 * (first + k)) for k in range(many - 1)]
    return ("net", 0, [1] + [0] * (flops - 1), gates, [2 * (first + many - 1)] + [2 * k for k in range(1, flops)],
            [2 * first])


class OriginTest(unittest.TestCase):
    def test_example(self):
        self.assertEqual(called(self, origin, NET, 7), (3, 2, [1, 0]))
        self.assertEqual((called(self, period, NET, [0, 0]), period(NET, [1, 0])), (2, 1))

    def test_kinds_of_origins(self):
        # 1 an input; the flops 2 and 3 in a ring, 4 that leads into it, 5 behind 0, 6 behind the gate 7.
        net = ("net", 1, [0, 1, 1, 1, 0], [(2, 4)], [7, 4, 5, 1, 15], [])
        for literal in (0, 1, 2, 3, 4, 5, 6, 7, 8, 9, 14, 15):
            self.assertEqual(called(self, origin, net, literal), (literal, 0, []))
        self.assertEqual([origin(net, 10), origin(net, 11)], [(1, 1, [1]), (0, 1, [0])])
        self.assertEqual([origin(net, 12), origin(net, 13)], [(15, 1, [0]), (14, 1, [1])])

    def test_odd_literals_on_the_way(self):
        net = ("net", 1, [0, 0, 1], [], [3, 5, 7], [])
        self.assertEqual(origin(net, 8), (3, 3, [1, 1, 0]))
        self.assertEqual(origin(net, 9), (2, 3, [0, 0, 1]))

    def test_against_the_definition(self):
        for net in small_nets(150, 6, 2, 6):
            cycles = values_in_cycles(net, 8)
            for literal in range(2 * (base_of(net) + len(net[3]))):
                told, weight, firsts = called(self, origin, net, literal)
                self.assertEqual((told, weight), plain_origin(net, literal))
                self.assertEqual(firsts, [cycles[k][literal // 2] ^ (literal % 2) for k in range(weight)])


class MovedTest(unittest.TestCase):
    def test_hand_made(self):
        # The gate 4 was 1 & ~0 in the cycle 0; with the lag 1 it has one flop less on both literals, and one behind it.
        self.assertEqual(called(self, moved, NET, [1, 0]), ("net", 1, [1, 1], [(2, 5), (7, 3)], [2, 8], [10]))

    def test_equal_starts_are_taken_again(self):
        # Both flops keep the input; they start alike, or not.
        net = ("net", 1, [1, 1], [(4, 6)], [2, 2], [4, 6, 8])
        self.assertEqual(moved(net, [0]), ("net", 1, [1], [(4, 4)], [2], [4, 4, 6]))
        net = with_item(net, 2, [1, 0])
        self.assertEqual(moved(net, [0]), ("net", 1, [1, 0], [(4, 6)], [2, 2], [4, 6, 8]))
        # A flop that keeps the input turned and starts with 0 is one that keeps the input and starts with 1, turned.
        net = ("net", 1, [1, 0], [(4, 6)], [2, 3], [7])
        self.assertEqual(moved(net, [0]), ("net", 1, [1], [(4, 5)], [2], [4]))

    def test_flops_that_nobody_uses_and_bound_ones(self):
        net = ("net", 0, [1, 0, 1, 0], [(2, 4)], [5, 2, 10, 4], [3, 11])
        self.assertEqual(bound_flops(net), {1, 2, 4})
        self.assertEqual(moved(net, [0]), ("net", 0, [1, 0, 0], [(2, 4)], [5, 2, 4], [3, 9]))

    def test_gates_in_their_new_order(self):
        # With the lag 1 of the gate 4 a flop stands behind it, so the gate 5 has the new level 1.
        net = ("net", 1, [0], [(2, 2), (6, 2), (4, 5), (10, 8)], [2], [12])
        levels = plain_levels(net, [0, 0, 0, 0])
        self.assertEqual([levels[gate] for gate in gates_of(net)], [1, 2, 1, 3])
        told = called(self, moved, net, [0, 0, 0, 0])
        self.assertEqual(told, ("net", 1, [0], [(2, 2), (4, 5), (6, 2), (8, 10)], [2], [12]))

    def test_to_the_letter(self):
        many = 0
        for seed, net in enumerate(small_nets(250, 6, 2, 5)):
            for lags in some_lags(seed, net, 3):
                many += any(lags)
                self.assertEqual(called(self, period, net, lags), plain_period(net, lags))
                told = called(self, moved, net, lags)
                self.assertEqual(told, plainly_moved(net, lags))
                check(told)
                for kind in range(2):
                    rows = random_rows(kind, net[1], 12)
                    self.assertEqual(run(told, rows), run(net, rows))
        self.assertGreater(many, 150)

    def test_large_lags(self):
        net = chain(8, 60)
        lags = [60, 55, 50, 49, 3, 2, 1, 0]
        told = moved(net, lags)
        self.assertEqual(told[0:2], net[0:2])
        self.assertEqual(len(told[2]), 60)
        rows = random_rows(3, 1, 150)
        self.assertEqual(run(told, rows), run(net, rows))


class RetimedTest(unittest.TestCase):
    def test_example(self):
        other, paper = called(self, retimed, NET)
        self.assertEqual((period(NET, paper[0]), retimed_right(NET, other, paper)), (1, True))

    def test_least_by_trying_all_lags(self):
        gained = 0
        for net in small_nets(300, 5, 2, 5):
            other, (lags, circle) = called(self, retimed, net)
            is_true(self, retimed_right, net, other, (lags, circle))
            self.assertTrue(allowed(net, lags))
            least = min(plain_period(net, list(tried)) for tried in product(range(4), repeat=len(net[3]))
                        if allowed(net, list(tried)))
            self.assertEqual(plain_period(net, lags), least)
            self.assertEqual(other, moved(net, lags))
            self.assertEqual(circle is None, least <= 1)
            gained += least < plain_period(net, [0] * len(net[3]))
        self.assertGreater(gained, 15)

    def test_no_gates(self):
        net = ("net", 1, [1, 0], [], [2, 5], [6, 1, 3])
        other, paper = called(self, retimed, net)
        self.assertEqual((other, paper), (moved(net, []), ([], None)))
        is_true(self, retimed_right, net, other, paper)

    def test_chains_and_rings(self):
        for many, flops, least in ((12, 3, 3), (12, 0, 12), (12, 11, 1), (9, 2, 3)):
            net = chain(many, flops)
            other, paper = retimed(net)
            self.assertEqual(period(net, paper[0]), least)
            is_true(self, retimed_right, net, other, paper)
        for many, flops, least in ((12, 3, 4), (7, 2, 4), (7, 7, 1), (5, 8, 1), (10, 1, 10)):
            net = ring(many, flops)
            other, paper = retimed(net)
            self.assertEqual(period(net, paper[0]), least)
            is_true(self, retimed_right, net, other, paper)
            if least > 1:
                self.assertEqual({demand[0] for demand in paper[1]}, {"path"})

    def test_200_gates(self):
        kinds = set()
        for seed, (ins, flops, near) in enumerate(((0, 20, 3), (3, 60, 5), (8, 20, 40), (2, 40, None), (1, 9, 1))):
            net = made_net(seed, ins, flops, 200, 6, near)
            other, paper = retimed(net)
            self.assertIs(retimed_right(net, other, paper), True)
            kinds |= {demand[0] for demand in paper[1] or []}
            rows = random_rows(seed, ins, 40)
            self.assertEqual(run(other, rows), run(net, rows))
        self.assertEqual(kinds, {"wire", "zero", "path"})
        for net in (chain(200, 90), ring(200, 30)):
            other, paper = retimed(net)
            self.assertIs(retimed_right(net, other, paper), True)


class RightTest(unittest.TestCase):
    """The flop 2 stands behind the input; the gates 3 to 6 follow it in a row."""

    NET = ("net", 1, [1], [(4, 4), (6, 2), (8, 6), (3, 10)], [2], [12])
    CIRCLE = [("wire", 4, 1), ("path", [4, 5, 6], [0, 1]), ("zero", 6)]

    def setUp(self):
        self.lags = [1, 0, 0, 0]
        self.other = moved(self.NET, self.lags)

    def right(self, circle, lags=None, other=None):
        return called(self, retimed_right, self.NET, self.other if other is None else other,
                      (self.lags if lags is None else lags, circle))

    def test_the_net_of_these_tests(self):
        self.assertEqual([period(self.NET, [0, 0, 0, 0]), period(self.NET, self.lags)], [4, 3])
        self.assertIs(self.right(self.CIRCLE), True)

    def test_other_right_circles(self):
        self.assertIs(self.right(self.CIRCLE[1:] + self.CIRCLE[:1]), True)
        self.assertIs(self.right(self.CIRCLE[2:] + self.CIRCLE[:2]), True)
        self.assertIs(self.right(self.CIRCLE * 3), True)
        # Longer paths, other pins, and wires between the gates.
        self.assertIs(self.right([("wire", 3, 0), ("path", [3, 4, 5, 6], [0, 0, 1]), ("zero", 6)]), False)
        self.assertIs(self.right([("wire", 4, 1), ("path", [4, 5, 6], [0, 1]), ("zero", 6), ("wire", 6, 0), ("zero", 6)]),
                      True)
        self.assertIs(self.right([("wire", 4, 1), ("path", [4, 5, 6], [0, 1]), ("zero", 6), ("wire", 4, 1), ("zero", 4)]),
                      True)
        self.assertIs(self.right([("wire", 4, 1), ("path", [4, 5, 6], [0, 1]), ("zero", 6)] * 2 + [("wire", 5, 1),
                                 ("wire", 3, 0), ("zero", 5)]), False)

    def test_other_right_lags(self):
        is_true(self, retimed_right, NET, moved(NET, [1, 0]), ([1, 0], None))
        # Any lags of the least period will do.
        net = ("net", 0, [0], [(2, 2)], [4], [4])
        for lag in (0, 1, 2, 50):
            is_true(self, retimed_right, net, moved(net, [lag]), ([lag], None))

    def test_lags_that_are_not_least(self):
        other = moved(self.NET, [0, 0, 0, 0])
        self.assertIs(self.right(self.CIRCLE, [0, 0, 0, 0], other), False)
        self.assertIs(self.right(None, [0, 0, 0, 0], other), False)

    def test_wrong_lags(self):
        for lags in ([], [1, 0, 0], [1, 0, 0, 0, 0], [0, 0, 0, 0], [1, 1, 0, 0], [2, 0, 0, 0], [1, 0, 0, -1],
                     [-1, 0, 0, 0], [1, 0, 0, 1], [100, 100, 100, 100]):
            self.assertIs(self.right(self.CIRCLE, lags), False)
        for lags in ([-1], [-1, 0], [2, 0], [0, 1]):
            is_false(self, retimed_right, NET, moved(NET, [1, 0]), (lags, None))

    def test_other_nets(self):
        for at in range(1, 6):
            part = self.other[at]
            wrong = [part + 1] if at == 1 else [part[:-1], part + part[-1:], part[:-1] + [99]]
            for made in wrong:
                self.assertIs(self.right(self.CIRCLE, other=with_item(self.other, at, made)), False)
        self.assertIs(self.right(self.CIRCLE, other=self.NET), False)
        # The first literal of each gate stays the first one.
        gates = [(b, a) for a, b in self.other[3]]
        self.assertIs(self.right(self.CIRCLE, other=with_item(self.other, 3, gates)), False)

    def test_wrong_circles(self):
        wire, path, zero = self.CIRCLE
        for circle in (None, [], [wire], [path], [zero], [wire, path], [path, zero], [wire, zero], [wire, zero, path],
                       [zero, path, wire], [path, wire, zero], self.CIRCLE + [zero], self.CIRCLE + [path]):
            self.assertIs(self.right(circle), False)

    def test_wrong_demands(self):
        wire, path, zero = self.CIRCLE
        for demand in (("wire", 4, 0), ("wire", 4, 2), ("wire", 4, -1), ("wire", 5, 1), ("wire", 3, 0), ("wire", 1, 1),
                       ("wire", 7, 0), ("wire", -1, 0), ("zero", 4), ("path", [4, 5], [0])):
            self.assertIs(self.right([demand, path, zero]), False)
        for demand in (("zero", 5), ("zero", 4), ("zero", 1), ("zero", 0), ("zero", 7), ("zero", -3), ("wire", 6, 1)):
            self.assertIs(self.right([wire, path, demand]), False)
        for demand in (("path", [4, 5], [0]), ("path", [4, 5, 6], [1, 1]), ("path", [4, 5, 6], [0, 0]),
                       ("path", [4, 5, 6], [0]), ("path", [4, 5, 6], [0, 1, 0]), ("path", [4, 5, 6], [0, 2]),
                       ("path", [4, 5, 6], [0, -1]), ("path", [4, 6, 5], [0, 1]), ("path", [6, 5, 4], [1, 0]),
                       ("path", [], []), ("path", [4, 6], [1]), ("path", [4, 5, 6, 7], [0, 1, 0]),
                       ("path", [3, 5, 6], [1, 1]), ("path", [4], []), ("path", [1, 4, 5, 6], [1, 0, 1]),
                       ("path", [4, 5, -6], [0, 1]), ("path", [4, 5, 100], [0, 1]), ("path", [], [0])):
            self.assertIs(self.right([wire, demand, zero]), False)

    def test_sum_has_to_be_below_0(self):
        net = ("net", 1, [1, 0], [(4, 4), (8, 8), (10, 10)], [2, 4], [12])
        other, (lags, circle) = retimed(net)
        self.assertEqual(period(net, lags), 2)
        is_true(self, retimed_right, net, other, (lags, circle))
        is_false(self, retimed_right, net, other, (lags, [("wire", 5, 0), ("path", [5, 6], [0]), ("zero", 6)]))

    def test_period_0_and_1(self):
        net = ("net", 1, [], [(2, 2)], [], [4])
        other = moved(net, [0])
        is_true(self, retimed_right, net, other, ([0], None))
        # One gate alone is more than 0 gates, so this is a circle for the period 0.
        is_true(self, retimed_right, net, other, ([0], [("path", [2], [])]))
        is_true(self, retimed_right, net, other, ([0], [("wire", 2, 0), ("path", [2], []), ("zero", 2)]))
        is_false(self, retimed_right, net, other, ([0], []))
        is_false(self, retimed_right, net, other, ([0], [("wire", 2, 0), ("zero", 2)]))
        plain = ("net", 1, [], [], [], [2])
        is_true(self, retimed_right, plain, plain, ([], None))
        is_false(self, retimed_right, plain, plain, ([], []))
        is_false(self, retimed_right, plain, plain, ([], [("zero", 1)]))
        is_false(self, retimed_right, plain, plain, ([0], None))

    def test_none_where_a_circle_is_due(self):
        for net in small_nets(80, 6, 2, 4):
            other, (lags, circle) = retimed(net)
            if circle is not None:
                is_false(self, retimed_right, net, other, (lags, None))
                is_false(self, retimed_right, net, other, (lags, circle[:-1]))
                self.assertIs(retimed_right(net, other, (lags, circle[1:] + circle[:1])), True)
                if len(circle) > 2:
                    is_false(self, retimed_right, net, other, (lags, circle[::-1]))


if __name__ == "__main__":
    unittest.main()
