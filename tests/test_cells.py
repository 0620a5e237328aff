"""Section Cells (points 13.1 to 13.4) and cells.py of the interface."""

import unittest
from random import Random

from calling import called, with_item
from cellcloth.cells import check_cells, packed, run_cells, step_cells
from cellcloth.cover import covered, cut_bits
from cellcloth.errors import KindError, LoopError
from cellcloth.nets import run, step
from cellcloth.sweep import tidied
from netmaking import made_net, random_rows, small_nets

NONE = ("none",)


def pad(at):
    return ("pad", at)


def cell(at):
    return ("cell", at)


def made(*sources, table=0, kept=0, start=0):
    return ("cell", list(sources), table, kept, start)


def fault_of(cells):
    try:
        check_cells(cells)
    except KindError as error:
        return error.place
    except LoopError as error:
        return error.places
    return None


class CheckTest(unittest.TestCase):
    def cells(self, *rows, ins=2, outs=()):
        return ("cells", ins, list(rows), list(outs))

    def test_no_fault(self):
        for cells in (self.cells(ins=0), self.cells(ins=0, outs=[NONE, NONE]), self.cells(outs=[pad(0), pad(1), NONE]),
                      self.cells(made(table=1), made(table=0), outs=[cell(0), cell(1)]),
                      self.cells(made(NONE, NONE, NONE, NONE, table=65535, kept=1, start=1), outs=[cell(0)]),
                      self.cells(made(pad(0), pad(1), pad(0), cell(1), table=40000), made(table=1, kept=1))):
            self.assertIsNone(called(self, check_cells, cells))

    def test_each_fault_of_a_cell(self):
        good = made(pad(0), table=2)
        wrong = [made(*[NONE] * 5, table=0), made(pad(2)), made(pad(-1)), made(cell(2)), made(cell(-1)),
                 made(pad(0), cell(99)), made(cell(5), kept=1), made(table=2), made(table=-1), made(pad(0), table=4),
                 made(pad(0), pad(1), table=16), made(pad(0), pad(1), NONE, table=256),
                 made(*[NONE] * 4, table=65536), made(*[NONE] * 100, table=1), made(kept=2), made(kept=-1),
                 made(kept=1, start=2), made(kept=1, start=-1), made(start=1), made(kept=0, start=2)]
        for row in wrong:
            self.assertEqual(fault_of(self.cells(row, good)), "cell 0")
            self.assertEqual(fault_of(self.cells(good, row)), "cell 1")
        for row in (made(pad(1), table=3), made(pad(0), pad(1), table=15), made(*[NONE] * 3, table=255),
                    made(kept=1, start=1)):
            self.assertIsNone(fault_of(self.cells(good, row)))

    def test_faults_of_outs(self):
        for out in (pad(2), pad(-1), cell(1), cell(-1)):
            self.assertEqual(fault_of(self.cells(made(), outs=[out, NONE])), "out 0")
            self.assertEqual(fault_of(self.cells(made(), outs=[NONE, cell(0), out])), "out 2")
        self.assertEqual(fault_of(self.cells(ins=0, outs=[pad(0)])), "out 0")
        self.assertEqual(fault_of(self.cells(outs=[cell(0)])), "out 0")

    def test_the_first_of_several(self):
        circle = made(cell(0), table=2)
        self.assertEqual(fault_of(self.cells(circle, made(table=9), made(table=8), outs=[pad(7)])), "cell 1")
        self.assertEqual(fault_of(self.cells(circle, made(), outs=[pad(0), pad(7), pad(8)])), "out 1")
        self.assertEqual(fault_of(self.cells(circle, made(), outs=[pad(0)])), [0])

    def test_circles(self):
        self.assertEqual(fault_of(self.cells(made(pad(0), cell(0)))), [0])
        self.assertIsNone(fault_of(self.cells(made(cell(0), kept=1))))
        # A circle of three; 3 hangs on it, and it hangs on 4; 5 is a circle of its own.
        rows = [made(cell(1)), made(cell(2), cell(4)), made(cell(0)), made(cell(1)), made(pad(0)), made(cell(5), cell(0))]
        self.assertEqual(fault_of(self.cells(*rows, outs=[cell(3)])), [0, 1, 2, 5])
        # With a kept cell in it the circle of three is none, nor is it one of what the kept cell has alone.
        for at in range(3):
            kept = with_item(rows, at, made(*rows[at][1], kept=1, start=1))
            self.assertEqual(fault_of(self.cells(*kept)), [5])
        # 1 lies on a way from one circle to another one, and on no circle.
        rows = [made(cell(0)), made(cell(0)), made(cell(1), cell(2))]
        self.assertEqual(fault_of(self.cells(*rows)), [0, 2])

    def test_long_chains(self):
        rows = [made(cell(k + 1), table=1) for k in range(1999)] + [made(pad(0), table=1)]
        cells = self.cells(*rows, outs=[cell(0)])
        self.assertIsNone(fault_of(cells))
        self.assertEqual(run_cells(cells, [[0, 0], [1, 0]]), [[0], [1]])
        self.assertEqual(fault_of(self.cells(*rows[:-1], made(cell(0), table=1))), list(range(2000)))


class RunTest(unittest.TestCase):
    def test_tables(self):
        random = Random(1)
        for many in range(5):
            for _ in range(6):
                table = random.randrange(2 ** 2 ** many)
                cells = ("cells", many, [made(*[pad(at) for at in range(many)], table=table)], [cell(0)])
                for number in range(2 ** many):
                    bits = [number >> at & 1 for at in range(many)]
                    self.assertEqual(called(self, step_cells, cells, [0], bits), ([table >> number & 1], [0]))

    def test_kept_and_other_cells(self):
        cells = ("cells", 1, [made(cell(1), table=2, kept=1, start=1), made(pad(0), cell(0), table=6),
                              made(NONE, cell(1), table=4)], [cell(0), cell(1), cell(2), pad(0), NONE])
        self.assertEqual(called(self, step_cells, cells, [1, 0, 0], [1]), ([1, 0, 0, 1, 0], [0, 0, 0]))
        self.assertEqual(step_cells(cells, [0, 0, 0], [1]), ([0, 1, 1, 1, 0], [1, 0, 0]))
        self.assertEqual(called(self, run_cells, cells, [[1], [1], [0]]),
                         [[1, 0, 0, 1, 0], [0, 1, 1, 1, 0], [1, 1, 1, 0, 0]])
        self.assertEqual(run_cells(cells, []), [])

    def test_nothing(self):
        cells = ("cells", 0, [], [])
        self.assertEqual(step_cells(cells, [], []), ([], []))
        self.assertEqual(run_cells(cells, [[], []]), [[], []])
        self.assertEqual(run_cells(("cells", 0, [made(table=1, kept=1), made(table=1)], [cell(0), cell(1)]), [[], []]),
                         [[0, 1], [1, 1]])

    def test_all_change_at_once(self):
        rows = [made(cell(2), table=2, kept=1, start=1), made(cell(0), table=2, kept=1), made(cell(1), table=2, kept=1)]
        cells = ("cells", 0, rows, [cell(0), cell(1), cell(2)])
        self.assertEqual(run_cells(cells, [[]] * 4), [[1, 0, 0], [0, 1, 0], [0, 0, 1], [1, 0, 0]])


class PackedTest(unittest.TestCase):
    def test_example(self):
        net = ("net", 1, [0], [(2, 5), (3, 4), (7, 9)], [11], [4, 5])
        cells = called(self, packed, net, [(5, [1, 2], 9)])
        self.assertEqual(cells[2], [("cell", [("pad", 0), ("cell", 0)], 6, 1, 0), ("cell", [("cell", 0)], 1, 0, 0)])
        self.assertEqual((cells[3], run_cells(cells, [[1], [1]])), ([("cell", 0), ("cell", 1)], [[0, 1], [1, 0]]))

    # The inputs 1 and 2, the flop 3, the gates 4 (1 & 2) and 5 (4 & 3).
    TABLES = [(4, [1, 2], 8), (5, [3, 4], 8)]

    def net(self, nexts, outs, starts=(1,)):
        many = len(starts)
        return ("net", 2, list(starts), [(2, 4), (2 * (3 + many), 6)], nexts, outs)

    def test_flops_that_take_a_table(self):
        alone = made(pad(0), pad(1), table=8)
        self.assertEqual(called(self, packed, self.net([10], []), self.TABLES),
                         ("cells", 2, [made(cell(0), cell(1), table=8, kept=1, start=1), alone], []))
        self.assertEqual(packed(self.net([11], []), self.TABLES),
                         ("cells", 2, [made(cell(0), cell(1), table=7, kept=1, start=1), alone], []))
        self.assertEqual(packed(self.net([8], []), self.TABLES[:1]),
                         ("cells", 2, [made(pad(0), pad(1), table=8, kept=1, start=1)], []))

    def test_flops_that_may_not(self):
        rows = [made(pad(0), pad(1), table=8), made(cell(0), cell(1), table=8)]
        # In a cut.
        self.assertEqual(packed(self.net([8], [10]), self.TABLES),
                         ("cells", 2, [made(cell(1), table=2, kept=1, start=1)] + rows, [cell(2)]))
        self.assertEqual(packed(self.net([9], [10]), self.TABLES),
                         ("cells", 2, [made(cell(1), table=1, kept=1, start=1)] + rows, [cell(2)]))
        # In an out, even and odd.
        self.assertEqual(packed(self.net([10], [10]), self.TABLES),
                         ("cells", 2, [made(cell(2), table=2, kept=1, start=1)] + rows, [cell(2)]))
        self.assertEqual(packed(self.net([10], [11]), self.TABLES), (
            "cells", 2, [made(cell(2), table=2, kept=1, start=1)] + rows + [made(cell(2), table=1)], [cell(3)]))
        # In another next, even and odd.
        tables = [(5, [1, 2], 8), (6, [3, 5], 8)]
        rows = [made(pad(0), pad(1), table=8), made(cell(0), cell(2), table=8)]
        for first, second in ((12, 12), (12, 13), (13, 12), (13, 13)):
            told = packed(self.net([first, second], [], (1, 0)), tables)
            self.assertEqual(told, ("cells", 2, [made(cell(3), table=2 - first % 2, kept=1, start=1),
                                                 made(cell(3), table=2 - second % 2, kept=1)] + rows, []))

    def test_flops_of_other_nodes(self):
        # 0, 1, inputs and flops, even and odd.
        net = ("net", 1, [0, 1, 0, 1, 0, 1], [], [0, 1, 2, 3, 4, 7], [])
        self.assertEqual(called(self, packed, net, []), ("cells", 1, [
            made(kept=1), made(table=1, kept=1, start=1), made(pad(0), table=2, kept=1),
            made(pad(0), table=1, kept=1, start=1), made(cell(0), table=2, kept=1),
            made(cell(1), table=1, kept=1, start=1)], []))

    def test_outs(self):
        net = ("net", 2, [1], [(2, 4)], [6], [9, 0, 1, 7, 9, 8, 2, 3, 1, 6, 7, 0, 5])
        self.assertEqual(called(self, packed, net, [(4, [1, 2], 8)]), ("cells", 2, [
            made(cell(0), table=2, kept=1, start=1), made(pad(0), pad(1), table=8),
            made(cell(1), table=1), made(table=1), made(cell(0), table=1), made(pad(0), table=1), made(pad(1), table=1)],
            [cell(2), NONE, cell(3), cell(4), cell(2), cell(1), pad(0), cell(5), cell(3), cell(0), cell(4), NONE, cell(6)]))
        self.assertEqual(packed(("net", 0, [], [], [], [0, 1, 0]), []),
                         ("cells", 0, [made(table=1)], [NONE, cell(0), NONE]))
        self.assertEqual(packed(("net", 0, [], [], [], []), []), ("cells", 0, [], []))

    def test_a_gate_that_is_not_in_order(self):
        """Gates with tables stand in order behind all flops, without those that were taken."""
        net = ("net", 3, [0, 0], [(2, 4), (4, 6), (12, 14), (2, 6)], [16, 19], [12])
        tables = [(6, [1, 2], 8), (7, [2, 3], 8), (8, [6, 7], 8), (9, [1, 3], 8)]
        self.assertEqual(packed(net, tables), ("cells", 3, [
            made(cell(2), cell(3), table=8, kept=1), made(pad(0), pad(2), table=7, kept=1),
            made(pad(0), pad(1), table=8), made(pad(1), pad(2), table=8)], [cell(2)]))

    def test_nets_that_are_not_tidy(self):
        """Equal gates, and gates of equal and of opposite literals."""
        net = ("net", 1, [1], [(2, 2), (2, 3), (2, 4), (4, 2)], [10, ], [7, 9, 12, 8, 11])
        tables = [(gate, cut, cut_bits(net, gate, cut)) for gate, cut in ((3, [1]), (4, [1]), (5, [1, 2]), (6, [1, 2]))]
        cells = packed(net, tables)
        check_cells(cells)
        rows = random_rows(1, 1, 20)
        self.assertEqual(run_cells(cells, rows), run(net, rows))

    def test_runs_as_the_net(self):
        nets = [net for net in small_nets(150, 15, 4)] + [made_net(seed, 5, 6, 60, 9, 12) for seed in range(15)]
        for seed, untidy in enumerate(nets):
            net, _ = tidied(untidy)
            for k in (2, 3, 4):
                tables, _ = covered(net, k)
                cells = called(self, packed, net, tables)
                self.assertIsNone(check_cells(cells))
                rows = random_rows(seed, net[1], 15)
                self.assertEqual(called(self, run_cells, cells, rows), run(net, rows))
                self.assertEqual(cells[0:2], ("cells", net[1]))
                self.check_states(net, cells, rows)
                taken = sum(1 for _, sources, table, kept, _ in cells[2][:len(net[2])]) + len(tables)
                odd = len({literal for literal in net[5] if literal % 2})
                merged = self.many_merged(net, tables)
                self.assertEqual(len(cells[2]), taken - merged + odd)

    def many_merged(self, net, tables):
        count = 0
        for at, literal in enumerate(net[4]):
            others = net[5] + net[4][:at] + net[4][at + 1:]
            used = [x // 2 for x in others] + [node for _, cut, _ in tables for node in cut]
            count += literal // 2 in [gate for gate, _, _ in tables] and literal // 2 not in used
        return count

    def check_states(self, net, cells, rows):
        state = net[2]
        many = len(state)
        others = [row[4] for row in cells[2]]
        for bits in rows:
            self.assertEqual(others, state + [0] * (len(cells[2]) - many))
            told, others = step_cells(cells, others, bits)
            row, state = step(net, state, bits)
            self.assertEqual(told, row)


if __name__ == "__main__":
    unittest.main()
