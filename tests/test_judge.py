"""Chapter 23 (points 23.1 to 23.5) and judge.py of the interface."""

import unittest
from itertools import product
from random import Random

from calling import called, is_false, is_true, with_item
from cellcloth.elaborate import flat
from cellcloth.errors import LimitError
from cellcloth.gates import blast
from cellcloth.judge import judge, judge_right
from cellcloth.nets import run, step
from cellcloth.parsing import parse
from cellcloth.retime import retimed
from cellcloth.solver import net_clauses, proof_right
from cellcloth.sweep import swept, tidied
from netmaking import made_net, random_rows, small_nets

ONE = ("net", 1, [0], [], [2], [4])
OTHER = ("net", 1, [1], [], [3], [5])
THIRD = ("net", 1, [0, 0], [], [2, 4], [6])


def net_of_text(text):
    return blast(flat(parse("part c() { " + text + " } top c();")))


def counter(width, at):
    """A counter that tells whether it has come to a number."""
    return net_of_text(f"in e: 1; reg n: {width} from 0 = choose(e, (n + word(1, {width})), n);"
                       f"out s: 1 = (n == word({at}, {width}));")


def gray_counter(width, at):
    """The same, where one bit changes in each step."""
    bits = ", ".join(f"odd((g >> word({k}, 4)))" for k in range(width))
    return net_of_text(f"in e: 1; reg g: {width} from 0 = (m ^ (m >> word(1, 4))); let n: {width} = join({bits});"
                       f"let m: {width} = choose(e, (n + word(1, {width})), n);"
                       f"out s: 1 = (n == word({at}, {width}));")


def all_inputs(net):
    """All rows of inputs, by the numbers that have their bits."""
    return [[number >> at & 1 for at in range(net[1])] for number in range(2 ** net[1])]


def first_difference(net, other):
    """Points 23.4 and 23.5 by trying all: the shortest and least run, or None."""
    level = [((net[2], other[2]), [])]
    seen = [(net[2], other[2])]
    while level:
        following = []
        for (state, other_state), rows in level:
            for bits in all_inputs(net):
                if step(net, state, bits)[0] != step(other, other_state, bits)[0]:
                    return rows + [bits]
        # The runs of one level stand in their order, so the first difference is in the least of them.
        for (state, other_state), rows in level:
            for bits in all_inputs(net):
                pair = (step(net, state, bits)[1], step(other, other_state, bits)[1])
                if pair not in seen:
                    seen.append(pair)
                    following.append((pair, rows + [bits]))
        level = following
    return None


def clauses_by_the_words(net, other, clauses, proofs):
    """Whether a paper of clauses is right, by the words of point 23.2."""
    ins, flops, many = net[1], len(net[2]) + len(other[2]), 1 + net[1] + len(net[2]) + len(net[3])

    def integer(second, literal):
        node = literal // 2
        variable = node + 1 + (many if second and node > ins else 0)
        return -variable if literal % 2 else variable

    def own(second, clause):
        return [(abs(v) + (many if second and abs(v) > ins + 1 else 0)) * (1 if v > 0 else -1) for v in clause]

    variables = [integer(0, 2 * (1 + ins + at)) for at in range(len(net[2]))]
    variables += [integer(1, 2 * (1 + ins + at)) for at in range(len(other[2]))]
    nexts = [integer(0, x) for x in net[4]] + [integer(1, x) for x in other[4]]
    starts = net[2] + other[2]
    base = [own(0, clause) for clause in net_clauses(net)] + [own(1, clause) for clause in net_clauses(other)]
    for clause in clauses:
        if any(not 1 <= abs(v) <= flops for v in clause):
            return False
        if not any(starts[abs(v) - 1] == (v > 0) for v in clause):
            return False
        base.append([variables[abs(v) - 1] * (1 if v > 0 else -1) for v in clause])
    units = [[[-nexts[abs(v) - 1] * (1 if v > 0 else -1)] for v in clause] for clause in clauses]
    for x, y in zip(net[5], other[5]):
        units += [[[-integer(0, x)], [integer(1, y)]], [[integer(0, x)], [-integer(1, y)]]]
    return len(units) == len(proofs) and all(proof_right(base + more, proof) for more, proof in zip(units, proofs))


def limit_of(net, other):
    try:
        judge(net, other)
    except LimitError as error:
        return error.kind
    return None


class JudgeTest(unittest.TestCase):
    def check(self, net, other):
        told = called(self, judge, net, other)
        self.assertIs(type(told), tuple)
        is_true(self, judge_right, net, other, told)
        if told[0] == "same":
            self.assertIs(type(told[1]), tuple)
            rows = random_rows(1, net[1], 30)
            self.assertEqual(run(net, rows), run(other, rows))
            if told[1][0] == "clauses":
                self.assertTrue(clauses_by_the_words(net, other, *told[1][1:]))
            return told[1][0]
        return told

    def test_example(self):
        told = [judge(ONE, OTHER)[0], judge_right(ONE, OTHER, judge(ONE, OTHER)), judge(ONE, THIRD)]
        self.assertEqual(told, ["same", True, ("other", [[1], [0]])])

    def test_against_all_runs(self):
        count = {"same": 0, "other": 0}
        for seed in range(250):
            random = Random(seed)
            ins, outs = random.randint(0, 3), random.randint(1, 2)
            net = made_net(seed, ins, random.randint(0, 3), random.randint(0, 8), outs)
            other = made_net(seed + 999, ins, random.randint(0, 3), random.randint(0, 8), outs)
            expected = first_difference(net, other)
            told = self.check(net, other)
            if expected is None:
                self.assertIn(told, ("clauses", "states"))
            else:
                self.assertEqual(told, ("other", expected))
            count["same" if expected is None else "other"] += 1
        self.assertGreater(min(count.values()), 20)

    def test_nets_made_small_and_moved(self):
        for seed, net in enumerate(small_nets(100)):
            for other in (net, tidied(net)[0], swept(net)[0], self.turned(net, seed), self.doubled(net)):
                self.assertEqual(self.check(net, other), "clauses")
                self.assertEqual(self.check(other, net), "clauses")
            self.assertIn(self.check(net, retimed(net)[0]), ("clauses", "states"))

    def turned(self, net, seed):
        """The net with some of its flops turned."""
        random = Random(seed)
        _, ins, starts, gates, nexts, outs = net
        turns = [random.randint(0, 1) for _ in starts]
        by_node = {1 + ins + at: turn for at, turn in enumerate(turns)}

        def other(literal):
            return literal ^ by_node.get(literal // 2, 0)

        return ("net", ins, [start ^ turn for start, turn in zip(starts, turns)],
                [(other(a), other(b)) for a, b in gates],
                [other(literal) ^ turn for literal, turn in zip(nexts, turns)], [other(literal) for literal in outs])

    def doubled(self, net):
        """The net with each flop twice; gates and outs take the second one of each, and one flop more is unused."""
        _, ins, starts, gates, nexts, outs = net
        many = len(starts)

        def other(literal):
            if literal // 2 <= ins:
                return literal
            return literal + 2 * many if literal // 2 <= ins + many else literal + 2 * (many + 1)

        return ("net", ins, starts * 2 + [1], [(other(a), other(b)) for a, b in gates],
                [other(literal) for literal in nexts * 2] + [2 * (1 + ins + 2 * many) + 1],
                [other(literal) for literal in outs])

    def test_nothing_at_all(self):
        self.assertEqual(self.check(("net", 0, [], [], [], []), ("net", 0, [], [], [], [])), "clauses")
        self.assertEqual(self.check(("net", 2, [0], [], [3], []), ("net", 2, [], [], [], [])), "clauses")
        self.assertEqual(self.check(("net", 0, [], [], [], [0]), ("net", 0, [], [], [], [1])), ("other", [[]]))
        self.assertEqual(self.check(("net", 0, [0], [], [1], [2]), ("net", 0, [], [], [], [0])), ("other", [[], []]))
        self.assertEqual(self.check(("net", 0, [0], [], [0], [2]), ("net", 0, [1], [], [1], [3])), "clauses")

    def test_outs_and_nexts_0_and_1(self):
        net = ("net", 1, [1, 0], [(2, 3)], [1, 8], [4, 7, 8, 0, 1])
        self.assertEqual(self.check(net, ("net", 1, [], [], [], [1, 1, 0, 0, 1])), "clauses")
        self.assertEqual(self.check(net, ("net", 1, [], [], [], [1, 1, 0, 1, 1])), ("other", [[0]]))

    def test_more_than_ten_inputs(self):
        net = made_net(1, 20, 6, 60, 5)
        self.assertEqual(self.check(net, swept(net)[0]), "clauses")
        wide = net_of_text("in a: 16; in b: 16; reg r: 16 from 7 = ((r + a) + b); out s: 16 = r;")
        other = net_of_text("in a: 16; in b: 16; reg r: 16 from 7 = (r + (b + a)); out s: 16 = r;")
        self.assertEqual(judge(wide, other)[1][0], "clauses")
        self.assertTrue(judge_right(wide, other, judge(wide, other)))

    def test_only_states_can_show_it(self):
        for width in (2, 5, 8):
            at = 2 ** width - 2
            self.assertEqual(self.check(counter(width, at), gray_counter(width, at)), "states")
        # Two flops of which one is always the opposite of the other one.
        net = ("net", 1, [1, 0], [(4, 6)], [6, 4], [8])
        self.assertEqual(self.check(net, ("net", 1, [], [], [], [0])), "clauses")
        # Three flops of which just one is 1, which no classes say.
        net = ("net", 1, [1, 0, 0], [(4, 6)], [8, 4, 6], [10])
        self.assertEqual(self.check(net, ("net", 1, [], [], [], [0])), "states")
        told = judge(net, ("net", 1, [], [], [], [0]))
        self.assertEqual(sorted(told[1][1]), [[[0, 0, 1], []], [[0, 1, 0], []], [[1, 0, 0], []]])

    def test_the_least_of_the_shortest(self):
        # The out is 1 in the next cycle for each row but the numbers 0 and 1: the least is 2, the first bit the low one.
        net = ("net", 3, [0], [(5, 7)], [11], [8])
        self.assertEqual(self.check(net, ("net", 3, [], [], [], [0])), ("other", [[0, 1, 0], [0, 0, 0]]))
        # With the third input only.
        net = ("net", 3, [0], [(6, 5)], [10], [8])
        self.assertEqual(self.check(net, ("net", 3, [], [], [], [0])), ("other", [[0, 0, 1], [0, 0, 0]]))
        # The first row decides before the second one: 1 then 0 0 .. is more than 0 then 1 1 ..
        shown = net_of_text("in a: 2; reg p: 2 from 0 = a; reg q: 2 from 0 = p; out s: 1 = "
                            "(((q == word(1, 2)) & (p == word(2, 2))) | ((q == word(0, 2)) & (p == word(3, 2))));")
        rows = self.check(shown, ("net", 2, [], [], [], [0]))[1]
        self.assertEqual(rows, first_difference(shown, ("net", 2, [], [], [], [0])))
        self.assertEqual(rows, [[1, 1], [0, 0]])

    def test_long_runs(self):
        rows = judge(counter(8, 255), ("net", 1, [], [], [], [0]))[1]
        self.assertEqual(rows, [[1]] * 255 + [[0]])
        rows = judge(counter(11, 2000), ("net", 1, [], [], [], [0]))[1]
        self.assertEqual(rows, [[1]] * 2000 + [[0]])

    def test_limits(self):
        # Nothing matches here, and there are too many states.
        self.assertEqual(limit_of(counter(13, 8190), gray_counter(13, 8190)), "states")
        self.assertEqual(limit_of(counter(13, 5000), ("net", 1, [], [], [], [0])), "states")
        self.assertEqual(judge(counter(12, 4094), gray_counter(12, 4094))[1][0], "states")
        for ins, kind in ((10, None), (11, "inputs")):
            net = ("net", ins, [0], [], [2], [2 * ins + 2])
            other = ("net", ins, [0], [], [4], [2 * ins + 2])
            self.assertEqual(limit_of(net, other), kind)
        # Both limits: that of the inputs is told.
        wide = net_of_text("in e: 1; in a: 15; reg n: 14 from 0 = (n + word(1, 14)); out s: 1 = (n == word(9999, 14));")
        self.assertEqual(limit_of(wide, ("net", 16, [], [], [], [0])), "inputs")

    def test_just_as_many_pairs_of_states_as_allowed(self):
        """Both count, but from other numbers on."""
        def counting(first, last):
            return net_of_text(f"reg n: 13 from {first} = choose((n == word({last}, 13)), word({first}, 13),"
                               f" (n + word(1, 13))); out s: 1 = (n == word({last}, 13));")

        for many, kind in ((4096, None), (4097, "states")):
            net, other = counting(0, many - 1), counting(5, many + 4)
            self.assertEqual(limit_of(net, other), kind)
            if kind is None:
                told = judge(net, other)
                self.assertEqual((told[1][0], len(told[1][1]), judge_right(net, other, told)), ("states", many, True))

    def test_no_limit_for_nets_that_match(self):
        shift = " ".join(f"reg r{k}: 8 from {k} = {'a' if k == 0 else f'r{k - 1}'};" for k in range(8))
        net = net_of_text("in a: 8; in b: 8; " + shift + " out s: 8 = (r7 ^ b);")
        for other in (self.turned(net, 3), self.doubled(net)):
            self.assertEqual(self.check(net, other), "clauses")
        wide = counter(16, 65535)
        self.assertEqual(self.check(wide, self.turned(wide, 5)), "clauses")


class RightTest(unittest.TestCase):
    PAPER = ("clauses", [[-1, -2], [1, 2]], [[[]]] * 4)

    def check(self, right, told, net=ONE, other=OTHER):
        self.assertIs(called(self, judge_right, net, other, told), right, told)

    def test_papers_of_clauses_by_hand(self):
        # The flop 2 is always the opposite of the flop 1.
        self.check(True, ("same", self.PAPER))
        self.check(True, ("same", ("clauses", [[2, 1], [-2, -1], [1, 2, 2]], [[[]]] * 5)))
        self.check(True, ("same", ("clauses", self.PAPER[1], [[[2], []], [[]], [[-2], []], [[3], [-3], []]][:2] + [[[]]] * 2)))

    def test_wrong_clauses(self):
        for clauses in ([[-1, -2]], [[1, 2]], [], [[-1, -2], [1, 2], []], [[-1, -2], [1, 3]], [[-1, -2], [1, -3]],
                        [[-1, -2], [0, 1, 2]], [[-1, 2], [1, -2]], [[-1], [2]], [[1], [-1, -2]]):
            self.check(False, ("same", ("clauses", clauses, [[[]]] * (len(clauses) + 2))))

    def test_a_clause_holds_at_the_start_or_not(self):
        """Clauses that keep on holding, but do not hold at the start, show nothing."""
        net = ("net", 0, [0], [], [2], [2])
        other = ("net", 0, [1], [], [2], [2])
        for clauses in ([[1, -2], [-1, 2]], [[1], [2]]):
            self.check(False, ("same", ("clauses", clauses, [[[]]] * 4)), net, other)
        self.check(True, ("same", ("clauses", [[-1], [-2]], [[[]]] * 4)), net, net)
        self.check(False, ("same", ("clauses", [[1], [2]], [[[]]] * 4)), net, net)

    def test_a_clause_that_does_not_go_on_holding(self):
        net = ("net", 0, [0], [], [3], [2])
        self.check(False, ("same", ("clauses", [[-1]], [[[]]] * 3)), net, ("net", 0, [], [], [], [0]))
        # Nor does a proof of one out do for another one.
        net = ("net", 1, [0], [], [2], [4, 2])
        self.check(False, ("same", ("clauses", [[-1, 2], [1, -2]], [[[]]] * 6)), net, with_item(net, 5, [4, 3]))
        self.check(True, ("same", ("clauses", [[-1, 2], [1, -2]], [[[]]] * 6)), net, net)

    def test_wrong_proofs(self):
        for at in range(4):
            for proof in ([], [[1]], [[0], []], [[99]]):
                self.check(False, ("same", with_item(self.PAPER, 2, with_item(self.PAPER[2], at, proof))))
        for proofs in ([], self.PAPER[2][:3], self.PAPER[2] + [[[]]]):
            self.check(False, ("same", with_item(self.PAPER, 2, proofs)))

    def test_right_papers_of_clauses_of_any_maker(self):
        for seed, net in enumerate(small_nets(60)):
            other = swept(net)[0]
            _, (word, clauses, proofs) = judge(net, other)
            # In another order; with a clause twice; with longer proofs.
            many = len(clauses)
            is_true(self, judge_right, net, other, ("same", (word, clauses[::-1], proofs[:many][::-1] + proofs[many:])))
            is_true(self, judge_right, net, other, ("same", (word, clauses + clauses, proofs[:many] * 2 + proofs[many:])))
            is_true(self, judge_right, net, other, ("same", (word, clauses, [proof + [[]] for proof in proofs])))
            random = Random(seed)
            for _ in range(4):
                if clauses:
                    at = random.randrange(many)
                    wrong = with_item(clauses, at, [-v for v in clauses[at]])
                    paper = (word, wrong, proofs)
                    self.assertIs(judge_right(net, other, ("same", paper)), clauses_by_the_words(net, other, wrong, proofs))
                    paper = (word, clauses[:at] + clauses[at + 1:], proofs[:at] + proofs[at + 1:])
                    self.assertIs(judge_right(net, other, ("same", paper)),
                                  clauses_by_the_words(net, other, *paper[1:]))

    def test_clauses_for_nets_that_differ(self):
        for clauses in ([], [[-1, 2], [1, -2]], [[-1], [-2], [-3]], [[1, -2], [2, -3], [-1, 3]]):
            for proof in ([[]], [[1], []]):
                self.check(False, ("same", ("clauses", clauses, [proof] * (len(clauses) + 2))), ONE, THIRD)

    def test_papers_of_states(self):
        pairs = [[[0], [1]], [[1], [0]]]
        self.check(True, ("same", ("states", pairs)))
        self.check(True, ("same", ("states", pairs[::-1] + pairs)))
        for wrong in ([], pairs[:1], pairs[1:], pairs + [[[0], [0]]], pairs + [[[1], [1]]], pairs + [[[0], []]],
                      pairs + [[[0, 0], [1]]], pairs + [[[0]]], pairs + [[[0], [1], []]], pairs + [[]],
                      pairs + [[[2], [1]]], pairs + [[[0], [-1]]], [[[0], [2]], [[1], [0]]], [[[1], [0]], [[1], [0]]]):
            self.check(False, ("same", ("states", wrong)))

    def test_pairs_that_are_missing(self):
        net, other = counter(3, 5), gray_counter(3, 5)
        _, (word, pairs) = judge(net, other)
        self.assertEqual(len(pairs), 8)
        for at in range(8):
            self.check(False, ("same", (word, pairs[:at] + pairs[at + 1:])), net, other)
        # More pairs than can be reached are right as long as they show no difference, with all that follow them.
        net = ("net", 0, [0], [], [2], [0])
        self.check(True, ("same", ("states", [[[0], [0]], [[1], [1]]])), net, net)
        self.check(True, ("same", ("states", [[[0], [0]], [[0], [1]]])), net, net)
        net = with_item(net, 4, [3])
        self.check(False, ("same", ("states", [[[0], [0]], [[1], [1]], [[0], [1]]])), net, net)

    def test_states_and_many_inputs(self):
        for ins in (9, 10, 11, 40):
            net = ("net", ins, [], [], [], [2 * ins])
            self.check(ins <= 10, ("same", ("states", [[[], []]])), net, net)

    def test_runs(self):
        for rows, right in (([[1], [0]], True), ([[1], [1]], True), ([[0], [1], [1]], True), ([], False), ([[1]], False),
                            ([[0], [0]], False), ([[1], [0], [0]], False), ([[1], [0], [1], [1]], False),
                            ([[0], [0], [0], [1], [0]], True), ([[], []], False), ([[1, 0], [0]], False),
                            ([[1], [0, 0]], False), ([[1], []], False), ([[2], [0]], False), ([[1], [-1]], False)):
            self.check(right, ("other", rows), ONE, THIRD)
        for rows in ([[]], [[1], [0]], [[0]] * 5):
            self.check(False, ("other", rows))

    def test_runs_need_not_be_the_shortest(self):
        for seed in range(40):
            net = made_net(seed, 2, 2, 5, 1)
            other = made_net(seed + 500, 2, 2, 5, 1)
            for rows in product(all_inputs(net), repeat=3):
                rows = list(rows)
                differ = [one != two for one, two in zip(run(net, rows), run(other, rows))]
                is_right = differ == [False, False, True]
                self.assertIs(judge_right(net, other, ("other", rows)), is_right)


if __name__ == "__main__":
    unittest.main()
