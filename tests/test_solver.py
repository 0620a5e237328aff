"""Section Clauses and proofs (points 9.1 to 9.4) and solver.py of the interface."""

import unittest
from itertools import combinations, product
from random import Random

from calling import called, is_false, is_true
from cellcloth.nets import values
from cellcloth.solver import integer_of, net_clauses, proof_right, solve
from netmaking import all_rows, small_nets

FOUR = [[1, 2], [-1, 2], [1, -2], [-1, -2]]


def keeps(clauses, bits):
    return all(any((bits[abs(v) - 1] == 1) == (v > 0) for v in clause) for clause in clauses)


def can_be_kept(clauses, many):
    return any(keeps(clauses, bits) for bits in product((0, 1), repeat=many))


def clashes(clauses, taken):
    """Unit propagation as point 9.2 has it, slowly."""
    taken = set(taken)
    while True:
        if any(-v in taken for v in taken):
            return True
        for clause in clauses:
            left = {v for v in clause if -v not in taken}
            if not left:
                return True
            if len(left) == 1 and not left <= taken:
                taken |= left
                break
        else:
            return False


def is_proof(clauses, proof):
    """Point 9.3, slowly."""
    if not proof or proof[-1] or any(0 in clause for clause in proof):
        return False
    return all(clashes(clauses + proof[:k], [-v for v in clause]) for k, clause in enumerate(proof))


def random_clauses(random, many, count, longest=3):
    return [[random.choice((1, -1)) * random.randint(1, many) for _ in range(random.randint(1, longest))]
            for _ in range(count)]


def pigeons(many, holes):
    """Clauses that say that pigeons sit in holes, each alone."""
    def sits(pigeon, hole):
        return pigeon * holes + hole + 1
    clauses = [[sits(pigeon, hole) for hole in range(holes)] for pigeon in range(many)]
    for hole in range(holes):
        clauses += [[-sits(a, hole), -sits(b, hole)] for a, b in combinations(range(many), 2)]
    return clauses, many * holes


class SolveTest(unittest.TestCase):
    def check_told(self, clauses, many):
        """What is told is right; returns whether the clauses can be kept."""
        told = called(self, solve, clauses, many)
        self.assertIs(type(told), tuple)
        if told[0] == "yes":
            self.assertEqual(len(told[1]), many)
            self.assertTrue(all(bit in (0, 1) for bit in told[1]))
            self.assertTrue(keeps(clauses, told[1]))
            return True
        self.assertEqual(told[0], "no")
        is_true(self, proof_right, clauses, told[1])
        return False

    def test_example(self):
        self.assertEqual(called(self, solve, [[1, 2], [-1, 2]], 2)[1][1], 1)
        is_true(self, proof_right, FOUR, [[2], []])
        is_false(self, proof_right, FOUR, [[]])
        self.assertEqual([called(self, integer_of, literal) for literal in [0, 1, 6, 7]], [1, -1, 4, -4])

    def test_edges(self):
        self.assertEqual(solve([], 0), ("yes", []))
        self.assertEqual(len(solve([], 4)[1]), 4)
        self.assertFalse(self.check_told([[]], 0))
        self.assertFalse(self.check_told([[1], []], 3))
        self.assertFalse(self.check_told([[1], [-1]], 1))
        self.assertFalse(self.check_told([[1, 1], [-1, -1, -1]], 1))
        self.assertTrue(self.check_told([[1, 1]], 1))
        self.assertTrue(self.check_told([[-1, -1]], 1))
        self.assertTrue(self.check_told([[1, -1]], 1))
        self.assertTrue(self.check_told([[2, -2, 1], [-1], [2, 2]], 2))
        self.assertFalse(self.check_told([[1, -1], [2, -1, 2], [1, 2], [-2]], 2))
        self.assertTrue(self.check_told([[4000]], 4000))
        self.assertFalse(self.check_told(FOUR, 2))

    def test_against_trying_all(self):
        answers = []
        for seed in range(1500):
            random = Random(seed)
            many = random.randint(1, 7)
            clauses = random_clauses(random, many, random.randint(0, 5 * many), 4)
            answers.append(self.check_told(clauses, many))
            self.assertEqual(answers[-1], can_be_kept(clauses, many))
        self.assertGreater(min(answers.count(True), answers.count(False)), 300)

    def test_long_row_of_implications(self):
        many = 3000
        row = [[-k, k + 1] for k in range(1, many)]
        self.assertTrue(self.check_told(row, many))
        self.assertTrue(self.check_told(row + [[many, -1]], many))
        self.assertEqual(solve(row + [[1]], many), ("yes", [1] * many))
        self.assertEqual(solve(row + [[-many]], many), ("yes", [0] * many))
        self.assertFalse(self.check_told(row + [[1], [-many]], many))
        self.assertFalse(self.check_told(row + [[1, -many], [1, 2], [-many, -1], [-many, 1, 7]], many))
        is_true(self, proof_right, row + [[1], [-many]], [[]])
        is_false(self, proof_right, row[:1500] + row[1501:] + [[1], [-many]], [[]])
        is_true(self, proof_right, row[::-1] + [[-many, 1], [1, 2], [-many, -1]], [[-1, many], [-5, 2999], [1], []])

    def test_pigeons_and_holes(self):
        for holes in range(1, 6):
            self.assertFalse(self.check_told(*pigeons(holes + 1, holes)))
            self.assertTrue(self.check_told(*pigeons(holes, holes)))
        clauses, many = pigeons(7, 6)
        answer, proof = solve(clauses, many)
        self.assertEqual(answer, "no")
        is_true(self, proof_right, clauses, proof)
        self.assertTrue(self.check_told(*pigeons(12, 12)))

    def test_harder_ones(self):
        """Enough clashes for all that the search does with what it learned."""
        answers = []
        for seed in range(6):
            random = Random(seed)
            clauses = [[random.choice((1, -1)) * v for v in random.sample(range(1, 131), 3)] for _ in range(560)]
            told = solve(clauses, 130)
            answers.append(told[0])
            if told[0] == "yes":
                self.assertTrue(keeps(clauses, told[1]))
            else:
                self.assertIs(proof_right(clauses, told[1]), True)
        self.assertIn("no", answers)
        random = Random(2)
        clauses = [[random.choice((1, -1)) * v for v in random.sample(range(1, 151), 3)] for _ in range(639)]
        answer, proof = solve(clauses, 150)
        self.assertEqual(answer, "no")
        self.assertGreater(len(proof), 4000)
        self.assertIs(proof_right(clauses, proof), True)
        clauses = [[random.choice((1, -1)) * v for v in random.sample(range(1, 1001), 3)] for _ in range(3300)]
        told = solve(clauses, 1000)
        self.assertTrue(told[0] == "yes" and keeps(clauses, told[1]))

    def test_odd_circles(self):
        """Words of which an odd number is 1, closed to a circle: x1 ^ x2 = 1, .. , with an odd number of turns."""
        for many in (3, 9, 41, 42):
            clauses = []
            for k in range(many):
                a, b = k + 1, (k + 1) % many + 1
                clauses += [[a, b], [-a, -b]]
            self.assertEqual(self.check_told(clauses, many), many % 2 == 0)


class ProofTest(unittest.TestCase):
    def test_ends(self):
        is_false(self, proof_right, FOUR, [])
        is_false(self, proof_right, [[]], [])
        is_false(self, proof_right, FOUR, [[2]])
        is_false(self, proof_right, FOUR, [[2], [], [1]])
        is_true(self, proof_right, FOUR, [[2], [], []])
        is_true(self, proof_right, FOUR, [[2], [], [1], [7], []])
        is_true(self, proof_right, [[]], [[]])
        is_true(self, proof_right, [[]], [[5, -7], [3], []])
        is_false(self, proof_right, [], [[]])
        is_false(self, proof_right, [[1]], [[]])
        is_true(self, proof_right, [[1], [-1]], [[]])

    def test_zero(self):
        for proof in ([[2, 0], []], [[0], [2], []], [[2], [0], []], [[2], [], [0], []], [[2], [0]], [[2], [], [3, 0]]):
            is_false(self, proof_right, FOUR, proof)
        is_false(self, proof_right, [[]], [[0], []])

    def test_integers_beyond_all_others(self):
        far = 10 ** 30
        is_true(self, proof_right, FOUR, [[2, far], [2, -far], [2], []])
        is_true(self, proof_right, FOUR, [[far, -far], [2], []])
        is_false(self, proof_right, FOUR, [[far], [2], []])
        is_false(self, proof_right, FOUR, [[-5], [2], []])
        is_true(self, proof_right, FOUR, [[2], [far], [-far], []])
        is_true(self, proof_right, [[far, 7], [-far, 7], [far, -7], [-far, -7]], [[far], []])
        # What a clause says of a variable that nothing else tells has to be heeded.
        is_false(self, proof_right, [[9, 2]], [[9], []])

    def test_clauses_with_more_than_one_of_a_kind(self):
        is_true(self, proof_right, [[1, 1], [-1, -1]], [[]])
        is_true(self, proof_right, [[1, 1, 2, 2], [-2, 1, -2], [-1, 2, 2, -1], [-1, -2, -2]], [[1, 1], []])
        is_false(self, proof_right, [[1, -1], [2, -2]], [[]])
        is_false(self, proof_right, [[1, -1], [1]], [[]])
        is_true(self, proof_right, [[1, -1, 2], [-2], [1, 2], [-1, 2, 2]], [[]])
        is_true(self, proof_right, FOUR, [[1, -1], [2, 2], []])
        # A clause that is always kept tells nothing of its other integers.
        is_false(self, proof_right, FOUR[:3], [[1, -1, 2], [-2], []])

    def test_each_clause_has_to_follow(self):
        clauses = [[1, 2, 3], [-1, 4], [-2, 4], [-3, 4], [-4, 5], [-4, -5]]
        is_true(self, proof_right, clauses, [[4], []])
        is_false(self, proof_right, clauses, [[]])
        is_true(self, proof_right, clauses, [[-4], []])
        for wrong in ([1], [2], [5], [-5, 1], [3, 2]):
            expected = is_proof(clauses, [wrong, [-4], []])
            (is_true if expected else is_false)(self, proof_right, clauses, [wrong, [-4], []])
        # It is unit propagation alone that counts, not what is so.
        hard = [[a, b, c] for a in (1, -1) for b in (2, -2) for c in (3, -3)]
        is_false(self, proof_right, hard, [[]])
        is_false(self, proof_right, hard, [[1], []])
        is_true(self, proof_right, hard, [[1, 2], [1], [2], []])
        is_false(self, proof_right, hard, [[1], [1, 2], [2], []])

    def test_changed_proofs_against_the_definition(self):
        counts = {True: 0, False: 0}
        for seed in range(260):
            random = Random(seed)
            many = random.randint(2, 6)
            clauses = random_clauses(random, many, 6 * many)
            answer, proof = solve(clauses, many)
            if answer == "yes":
                proof = [[random.choice((1, -1)) * random.randint(1, many + 1)] for _ in range(3)] + [[]]
            for _ in range(4):
                changed = [list(clause) for clause in proof]
                for _ in range(random.randint(1, 3)):
                    self.change(random, changed, many)
                expected = is_proof(clauses, changed)
                counts[expected] += 1
                (is_true if expected else is_false)(self, proof_right, clauses, changed)
        self.assertGreater(min(counts.values()), 150)

    def change(self, random, proof, many):
        form = random.randint(0, 5)
        at = random.randrange(len(proof) + 1)
        if form == 0 and at < len(proof):
            del proof[at]
        elif form == 1:
            proof.insert(at, random_clauses(random, many + 2, 1)[0])
        elif form == 2 and at < len(proof) and proof[at]:
            del proof[at][random.randrange(len(proof[at]))]
        elif form == 3 and at < len(proof):
            proof[at].append(random.choice((1, -1)) * random.randint(1, many + 1))
        elif form == 4 and len(proof) > 1:
            first, second = random.sample(range(len(proof)), 2)
            proof[first], proof[second] = proof[second], proof[first]
        elif at < len(proof) and proof[at]:
            k = random.randrange(len(proof[at]))
            proof[at][k] = -proof[at][k]

    def test_long_proofs_against_the_definition(self):
        """Proofs in which a line of a real proof is left out or exchanged."""
        clauses, many = pigeons(5, 4)
        proof = solve(clauses, many)[1]
        self.assertGreater(len(proof), 10)
        for at in range(len(proof) - 1):
            for changed in (proof[:at] + proof[at + 1:], proof[:at] + [proof[at][1:]] + proof[at + 1:],
                            proof[:at] + [proof[at + 1], proof[at]] + proof[at + 2:]):
                expected = is_proof(clauses, changed)
                (is_true if expected else is_false)(self, proof_right, clauses, changed)


class NetClausesTest(unittest.TestCase):
    def test_in_their_order(self):
        net = ("net", 1, [1], [(2, 5), (7, 7), (0, 9)], [3], [8])
        self.assertEqual(called(self, net_clauses, net), [
            [-1], [-4, 2], [-4, -3], [4, -2, 3], [-5, -4], [-5, -4], [5, 4, 4], [-6, 1], [-6, -5], [6, -1, 5]])
        self.assertEqual(net_clauses(("net", 0, [], [], [], [])), [[-1]])
        self.assertEqual(net_clauses(("net", 4, [0, 0], [], [2, 4], [5])), [[-1]])

    def test_kept_by_the_values_alone(self):
        for net in small_nets(40, 4, 2, 2):
            clauses = called(self, net_clauses, net)
            many = 1 + net[1] + len(net[2]) + len(net[3])
            kept = {bits for bits in product((0, 1), repeat=many) if keeps(clauses, bits)}
            self.assertEqual(kept, {tuple(values(net, state, bits)) for state, bits in all_rows(net)})

    def test_integers(self):
        self.assertEqual([integer_of(literal) for literal in range(8)], [1, -1, 2, -2, 3, -3, 4, -4])


if __name__ == "__main__":
    unittest.main()
