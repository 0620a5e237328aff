"""Section Stuck nodes (points 21.1 to 21.6) and stuck.py of the interface."""

import unittest
from random import Random

from calling import called, is_false, is_true, with_item
from cellcloth.nets import step
from cellcloth.solver import net_clauses, proof_right, solve
from cellcloth.stuck import agreeing, answer, fault_clauses, faults, tests, told, told_right
from netmaking import all_rows, made_net, small_nets

SMALL = ("net", 2, [], [(2, 4)], [], [6])


def many_nodes(net):
    return 1 + net[1] + len(net[2]) + len(net[3])


def plain_answer(net, fault, test):
    """Points 21.1 and 21.2, node by node."""
    state, bits = test
    values = []
    for node in range(many_nodes(net)):
        if fault and fault[0] == node:
            values.append(fault[1])
        elif node < many_nodes(net) - len(net[3]):
            values.append([0, *bits, *state][node])
        else:
            a, b = net[3][node - many_nodes(net)]
            values.append((values[a // 2] ^ a % 2) & (values[b // 2] ^ b % 2))
    return tuple([values[x // 2] ^ x % 2 for x in literals] for literals in (net[5], net[4]))


def plain_clauses(net, fault):
    """Point 21.3, in its order."""
    m = many_nodes(net)
    base = m - len(net[3])

    def greater(integer):
        return integer + m if integer > 0 else integer - m

    def integer(literal):
        return -(literal // 2 + 1) if literal % 2 else literal // 2 + 1

    clauses = net_clauses(net)
    for n in range(m):
        if n == fault[0]:
            clauses.append([(m + n + 1) * (1 if fault[1] else -1)])
        elif n == 0:
            clauses.append([-(m + 1)])
        elif n < base:
            clauses += [[-(m + n + 1), n + 1], [m + n + 1, -(n + 1)]]
        else:
            x, y = [greater(integer(literal)) for literal in net[3][n - base]]
            clauses += [[-(m + n + 1), x], [-(m + n + 1), y], [m + n + 1, -x, -y]]
    for w, literal in enumerate(net[5] + net[4]):
        d = 2 * m + w + 1
        clauses += [[-d, integer(literal), greater(integer(literal))], [-d, -integer(literal), -greater(integer(literal))]]
    return clauses + [[2 * m + w + 1 for w in range(len(net[5]) + len(net[4]))]]


def all_tests(net):
    return [(state, bits) for state, bits in all_rows(net)]


def finders(net, rows):
    """For each fault the set of the indexes of the tests that find it."""
    good = [plain_answer(net, None, test) for test in rows]
    return {fault: {at for at, test in enumerate(rows) if plain_answer(net, fault, test) != good[at]}
            for fault in faults(net)}


class FaultTest(unittest.TestCase):
    def test_example(self):
        self.assertEqual(called(self, faults, SMALL), [(1, 0), (1, 1), (2, 0), (2, 1), (3, 0), (3, 1)])
        self.assertEqual(called(self, answer, SMALL, (1, 1), ([], [0, 1])), ([1], []))
        self.assertEqual(called(self, told, SMALL, (3, 0)), ("test", [], [1, 1]))
        sights = [(([], [1, 1]), ([0], [])), (([], [0, 1]), ([0], []))]
        self.assertEqual(called(self, agreeing, SMALL, sights), [(1, 0), (2, 0), (3, 0)])

    def test_all_faults(self):
        self.assertEqual(faults(("net", 0, [], [], [], [])), [])
        self.assertEqual(faults(("net", 0, [1], [], [0], [])), [(1, 0), (1, 1)])
        for net in small_nets(30):
            told_faults = called(self, faults, net)
            self.assertEqual(told_faults, sorted((node, bit) for node in range(1, many_nodes(net)) for bit in (0, 1)))

    def test_answers(self):
        for seed, net in enumerate(small_nets(80)):
            rows = Random(seed).sample(all_tests(net), min(6, len(all_tests(net))))
            for test in rows:
                self.assertEqual(called(self, answer, net, None, test), step(net, *test))
                for fault in faults(net):
                    self.assertEqual(answer(net, fault, test), plain_answer(net, fault, test))

    def test_faults_at_inputs_flops_and_gates(self):
        net = ("net", 1, [0], [(2, 5)], [7], [6, 3, 4, 1])
        for fault, told_answer in ((None, ([1, 0, 0, 1], [0])), ((1, 0), ([0, 1, 0, 1], [1])), ((2, 1), ([0, 0, 1, 1], [1])),
                                   ((3, 0), ([0, 0, 0, 1], [1])), ((1, 1), ([1, 0, 0, 1], [0]))):
            self.assertEqual(called(self, answer, net, fault, ([0], [1])), told_answer)

    def test_nothing(self):
        net = ("net", 0, [], [], [], [])
        self.assertEqual(answer(net, None, ([], [])), ([], []))
        self.assertEqual(called(self, tests, net), [])
        self.assertEqual(called(self, agreeing, net, []), [None])
        self.assertEqual(tests(("net", 3, [0], [(2, 4)], [0], [1])), [])


class ClauseTest(unittest.TestCase):
    def test_to_the_letter(self):
        for net in small_nets(60, gates=8):
            for fault in faults(net):
                self.assertEqual(called(self, fault_clauses, net, fault), plain_clauses(net, fault))

    def test_example(self):
        self.assertEqual(fault_clauses(SMALL, (3, 1)), [
            [-1], [-4, 2], [-4, 3], [4, -2, -3], [-5], [-6, 2], [6, -2], [-7, 3], [7, -3], [8],
            [-9, 4, 8], [-9, -4, -8], [9]])
        self.assertEqual(fault_clauses(("net", 0, [1], [], [3], []), (1, 0)),
                         [[-1], [-3], [-4], [-5, -2, -4], [-5, 2, 4], [5]])
        self.assertEqual(fault_clauses(("net", 1, [], [], [], []), (1, 0)), [[-1], [-3], [-4], []])

    def test_they_can_be_kept_if_a_test_finds_the_fault(self):
        for net in small_nets(40, gates=8):
            found = finders(net, all_tests(net))
            for fault in faults(net):
                many = 2 * many_nodes(net) + len(net[5]) + len(net[4])
                self.assertEqual(solve(fault_clauses(net, fault), many)[0], "yes" if found[fault] else "no")


class ToldTest(unittest.TestCase):
    def test_against_all_tests(self):
        kinds = set()
        for net in small_nets(120, gates=14):
            found = finders(net, all_tests(net))
            for fault in faults(net):
                thing = called(self, told, net, fault)
                kinds.add(thing[0])
                self.assertEqual(thing[0], "test" if found[fault] else "none")
                self.assertIs(type(thing), tuple)
                is_true(self, told_right, net, fault, thing)
                if thing[0] == "none":
                    self.assertTrue(proof_right(plain_clauses(net, fault), thing[1]))
                else:
                    self.assertNotEqual(plain_answer(net, fault, thing[1:]), plain_answer(net, None, thing[1:]))
        self.assertEqual(kinds, {"test", "none"})

    def test_great_nets(self):
        for near in (None, 30):
            net = made_net(3, 20, 20, 700, 40, near)
            for fault in Random(1).sample(faults(net), 12):
                is_true(self, told_right, net, fault, told(net, fault))

    def test_right_ones_of_any_maker(self):
        net = ("net", 2, [0], [(2, 4), (6, 8)], [10], [8])
        found = finders(net, all_tests(net))
        for fault in faults(net):
            for at, (state, bits) in enumerate(all_tests(net)):
                self.assertIs(called(self, told_right, net, fault, ("test", state, bits)), at in found[fault])
        # The gate 4 is 0 always: x and not x, which is proved in several ways.
        net = ("net", 2, [], [(2, 3), (6, 4)], [], [8, 4])
        for proof in ([[]], [[4], []], told(net, (4, 0))[1], [[-4], [-9], [-11], [-12], []]):
            right = proof_right(plain_clauses(net, (4, 0)), proof)
            self.assertIs(called(self, told_right, net, (4, 0), ("none", proof)), right)
        is_true(self, told_right, net, (4, 0), ("none", [[-4], [-5], [-11], [-12, 3], [-12], []]))

    def test_wrong_tests(self):
        net = ("net", 2, [0], [(2, 4), (6, 8)], [10], [8])
        is_true(self, told_right, net, (4, 0), ("test", [0], [1, 1]))
        for state, bits in (([], [1, 1]), ([0, 0], [1, 1]), ([0], [1]), ([0], [1, 1, 1]), ([0], []), ([0], [0, 1]),
                            ([0], [1, 0])):
            is_false(self, told_right, net, (4, 0), ("test", state, bits))
        is_false(self, told_right, net, (4, 1), ("test", [0], [1, 1]))

    def test_wrong_proofs(self):
        net = ("net", 2, [], [(2, 3), (6, 4)], [], [8, 4])
        for proof in ([], [[1]], [[7]], [[-4], [-9], [5]], [[99], []]):
            is_false(self, told_right, net, (4, 0), ("none", proof))
        # There is a test, so there is no proof.
        for proof in ([[]], [[-4], []], told(net, (4, 0))[1]):
            is_false(self, told_right, net, (4, 1), ("none", proof))
            is_false(self, told_right, SMALL, (3, 0), ("none", proof))


class TestsTest(unittest.TestCase):
    def check(self, net, all_found):
        rows = called(self, tests, net)
        found = finders(net, rows)
        wanted = {fault for fault, at in all_found.items() if at}
        self.assertEqual({fault for fault, at in found.items() if at}, wanted)
        for k in range(len(rows)):
            self.assertTrue(any(at == {k} for at in found.values()), "not lean")
        for state, bits in rows:
            self.assertEqual((len(state), len(bits)), (len(net[2]), net[1]))
        return rows

    def test_small_nets(self):
        for net in small_nets(120, gates=14):
            self.check(net, finders(net, all_tests(net)))
        self.assertEqual(sorted(tests(SMALL)), [([], [0, 1]), ([], [1, 0]), ([], [1, 1])])

    def test_nets_with_more_states_and_inputs(self):
        """The faults that nothing is told to find are looked at by proofs."""
        for seed, net in enumerate([made_net(seed, 9, 8, 50, 6, 8) for seed in range(4)]):
            rows = called(self, tests, net)
            found = finders(net, rows)
            for fault, at in found.items():
                if not at:
                    thing = told(net, fault)
                    self.assertEqual((thing[0], told_right(net, fault, thing)), ("none", True))
            for k in range(len(rows)):
                self.assertTrue(any(at == {k} for at in found.values()))

    def test_many_nodes(self):
        for near in (None, 20):
            net = made_net(4, 30, 30, 930, 50, near)
            rows = tests(net)
            left = [fault for fault in Random(2).sample(faults(net), 20)
                    if all(answer(net, fault, test) == answer(net, None, test) for test in rows)]
            for fault in left:
                self.assertEqual(told(net, fault)[0], "none")


class AgreeingTest(unittest.TestCase):
    def check(self, net, sights):
        wanted = [fault for fault in [None] + faults(net)
                  if all(plain_answer(net, fault, test) == seen for test, seen in sights)]
        self.assertEqual(called(self, agreeing, net, sights), wanted)
        return wanted

    def test_no_sights(self):
        for net in small_nets(20):
            self.assertEqual(self.check(net, []), [None] + faults(net))

    def test_sights_of_a_fault(self):
        for seed, net in enumerate(small_nets(60)):
            random = Random(seed)
            rows = random.sample(all_tests(net), min(4, len(all_tests(net))))
            for fault in [None] + faults(net)[:6]:
                sights = [(test, plain_answer(net, fault, test)) for test in rows]
                self.assertIn(fault, self.check(net, sights))
                # The same sight twice changes nothing.
                self.assertEqual(agreeing(net, sights + sights[:1]), agreeing(net, sights))

    def test_sights_of_nothing(self):
        both = [(([], [1, 1]), ([0], [])), (([], [1, 1]), ([1], []))]
        self.assertEqual(self.check(SMALL, both), [])
        self.assertEqual(self.check(SMALL, both[1:]), [None, (1, 1), (2, 1), (3, 1)])
        self.assertEqual(self.check(SMALL, [(([], [0, 0]), ([1], []))]), [(3, 1)])
        self.assertEqual(self.check(SMALL, [(([], [0, 0]), ([1], [])), (([], [1, 1]), ([0], []))]), [])

    def test_nexts_count(self):
        net = ("net", 1, [0], [], [2], [4])
        self.assertEqual(self.check(net, [(([0], [1]), ([0], [1]))]), [None, (1, 1), (2, 0)])
        self.assertEqual(self.check(net, [(([0], [1]), ([0], [0]))]), [(1, 0)])
        self.assertEqual(self.check(net, [(([0], [0]), ([1], [1]))]), [])

    def test_with_itself(self):
        """The sights of lean tests tell the faults apart from no fault that can be found at all."""
        for seed in range(5):
            net = made_net(seed, 6, 4, 40, 5, 8)
            rows = tests(net)
            for fault in faults(net)[::7]:
                sights = [(test, answer(net, fault, test)) for test in rows]
                agree = self.check(net, sights)
                self.assertEqual(None in agree, told(net, fault)[0] == "none")


if __name__ == "__main__":
    unittest.main()
