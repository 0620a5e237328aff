"""Section Places (points 18.1 to 18.5) and place.py of the interface."""

import unittest
from itertools import combinations
from random import Random

from calling import called, is_false, is_true, with_item
from cellcloth.assign import assign_right
from cellcloth.errors import FitError
from cellcloth.fabric import borders, places_of
from cellcloth.place import length, placed, plan_right
from cellmaking import cases, made_cells

NONE = ("none",)


def pad(at):
    return ("pad", at)


def cell(at):
    return ("cell", at)


def row(*sources, kept=0):
    return ("cell", list(sources), 0, kept, 0)


def users_of(cells, source):
    return [j for j, (_, sources, _, _, _) in enumerate(cells[2]) if source in sources]


def plain_length(cells, spots):
    """Point 18.3, word by word."""
    told = 0
    for j in range(len(cells[2])):
        told += spread([spots[j]] + [spots[user] for user in users_of(cells, cell(j))])
    for at in range(cells[1]):
        users = users_of(cells, pad(at))
        if users:
            told += spread([spots[user] for user in users])
    return told


def spread(places):
    return sum(max(numbers) - min(numbers) for numbers in zip(*places))


def exchanged(spots, first, second):
    """Spots in which what is at two places has changed its place."""
    changes = {first: second, second: first}
    return [changes.get(spot, spot) for spot in spots]


def distance(one, other):
    return abs(one[0] - other[0]) + abs(one[1] - other[1])


def plain_costs(cells, fabric, plan):
    """Point 18.4, word by word."""
    _, spots, ins, _, _ = plan
    sides = borders(fabric)
    in_costs = [[sum(distance(side[:2], spots[j]) for j in users_of(cells, pad(at))) for side in sides]
                for at in range(cells[1])]
    out_costs = []
    for source in cells[3]:
        place = {"none": None, "cell": spots, "pad": ins}[source[0]]
        place = place and place[source[1]][:2]
        out_costs.append([distance(side[:2], place) if place else 0 for side in sides])
    return in_costs, out_costs


def fault_of(cells, fabric):
    try:
        placed(cells, fabric)
    except FitError as error:
        return error.kind
    return None


class LengthTest(unittest.TestCase):
    def test_example(self):
        cells = ("cells", 1, [("cell", [pad(0)], 2, 0, 0), ("cell", [cell(0)], 1, 1, 0)], [cell(1)])
        self.assertEqual(called(self, length, cells, [(0, 0), (2, 1)]), 3)
        fabric = ("fabric", 3, 2, 1, 1)
        is_true(self, plan_right, cells, fabric, called(self, placed, cells, fabric))

    def test_what_counts(self):
        spots = [(0, 0), (3, 1), (1, 5)]
        self.assertEqual(length(("cells", 0, [row(), row(), row()], []), spots), 0)
        # Twice the same source, and itself.
        self.assertEqual(length(("cells", 0, [row(), row(cell(0), cell(0)), row()], []), spots), 4)
        self.assertEqual(length(("cells", 0, [row(cell(0)), row(cell(1), cell(0)), row()], []), spots), 4)
        # Two users: the greatest differences, not the sums.
        self.assertEqual(length(("cells", 0, [row(), row(cell(0)), row(cell(0))], []), spots), 8)
        # A pad has no place of its own here, and outputs do not count.
        self.assertEqual(length(("cells", 2, [row(), row(pad(0)), row(pad(0), NONE)], [pad(0), cell(0)]), spots), 6)
        self.assertEqual(length(("cells", 2, [row(), row(pad(0)), row(pad(1))], [cell(1), NONE]), spots), 0)
        self.assertEqual(length(("cells", 3, [], [pad(0)]), []), 0)

    def test_to_the_letter(self):
        for seed, (cells, fabric) in enumerate(cases(80)):
            spots = Random(seed).sample(places_of(fabric), len(cells[2]))
            self.assertEqual(called(self, length, cells, spots), plain_length(cells, spots))


class PlacedTest(unittest.TestCase):
    def check_plan(self, cells, fabric, plan):
        self.assertEqual((type(plan), len(plan), plan[0]), (tuple, 5, "plan"))
        _, spots, ins, outs, potentials = plan
        self.assertEqual([len(spots), len(ins), len(outs)], [len(cells[2]), cells[1], len(cells[3])])
        self.assertEqual(sorted(set(spots) & set(places_of(fabric))), sorted(spots))
        sides = borders(fabric)
        for told, costs, pair in zip((ins, outs), plain_costs(cells, fabric, plan), potentials):
            self.assertTrue(assign_right(costs, [sides.index(side) for side in told], pair))
            self.assertIs(type(pair), tuple)
        self.assertEqual(len(potentials), 2)

    def check_settled(self, cells, fabric, spots):
        least = plain_length(cells, spots)
        for first, second in combinations(places_of(fabric), 2):
            self.assertGreaterEqual(plain_length(cells, exchanged(spots, first, second)), least)

    def test_many(self):
        for cells, fabric in cases(120):
            plan = called(self, placed, cells, fabric)
            self.check_plan(cells, fabric, plan)
            self.check_settled(cells, fabric, plan[1])
            is_true(self, plan_right, cells, fabric, plan)
            # The number of tracks does not matter.
            for tracks in (1, 8):
                other = with_item(fabric, 3, tracks)
                self.assertEqual(placed(cells, other), plan)
                is_true(self, plan_right, cells, other, plan)

    def test_nothing(self):
        self.assertEqual(called(self, placed, ("cells", 0, [], []), ("fabric", 2, 1, 1, 1)),
                         ("plan", [], [], [], [([], []), ([], [])]))
        fabric = ("fabric", 1, 1, 1, 1)
        plan = placed(("cells", 0, [], [NONE, NONE]), fabric)
        self.assertEqual(plan[3][0] != plan[3][1] and plan[4][0], ([], []))
        plan = placed(("cells", 2, [], []), fabric)
        self.assertEqual(plan[4][1], ([], []))
        is_true(self, plan_right, ("cells", 2, [], []), fabric, plan)
        plan = placed(("cells", 0, [row(cell(0), kept=1)], []), ("fabric", 1, 1, 1, 1))
        self.assertEqual(plan[1:4], ([(0, 0)], [], []))

    def test_outputs_of_pads(self):
        """Such an output goes where its pad is, a pad that nobody uses anywhere."""
        cells = ("cells", 3, [row(pad(0))], [pad(1), pad(0), pad(0), cell(0), NONE])
        fabric = ("fabric", 3, 3, 1, 1)
        plan = placed(cells, fabric)
        self.check_plan(cells, fabric, plan)
        self.assertEqual(plan[3][0][:2], plan[2][1][:2])

    def test_twelve_by_twelve(self):
        fabric = ("fabric", 12, 12, 1, 4)
        for seed, many, ins, outs in ((1, 144, 48, 48), (2, 80, 10, 5), (3, 143, 0, 0)):
            cells = made_cells(seed, many, ins, outs, 4)
            plan = placed(cells, fabric)
            self.check_plan(cells, fabric, plan)
            is_true(self, plan_right, cells, fabric, plan)
            self.check_settled_quickly(cells, fabric, plan[1])

    def check_settled_quickly(self, cells, fabric, spots):
        """As check_settled, but only the lengths that an exchange can change are looked at."""
        nets = [[j] + users_of(cells, cell(j)) for j in range(len(cells[2]))]
        nets += [users_of(cells, pad(at)) for at in range(cells[1])]
        nets_of = {spot: {at for at, net in enumerate(nets) if j in net} for j, spot in enumerate(spots)}
        lengths = [spread([spots[j] for j in net]) if net else 0 for net in nets]
        for first, second in combinations(places_of(fabric), 2):
            other = exchanged(spots, first, second)
            touched = nets_of.get(first, set()) | nets_of.get(second, set())
            change = sum(spread([other[j] for j in nets[at]]) - lengths[at] for at in touched)
            self.assertGreaterEqual(change, 0, (first, second))


class FitTest(unittest.TestCase):
    def test_each_kind(self):
        fabric = ("fabric", 2, 1, 1, 2)
        good = [row(pad(0), pad(1)), row(cell(0))]
        self.assertIsNone(fault_of(("cells", 6, good, [cell(0)] * 6), fabric))
        self.assertEqual(fault_of(("cells", 2, [row(pad(0), pad(1), NONE)], []), fabric), "pins")
        self.assertEqual(fault_of(("cells", 2, good + [row()], []), fabric), "cells")
        self.assertEqual(fault_of(("cells", 7, good, []), fabric), "ins")
        self.assertEqual(fault_of(("cells", 2, good, [cell(0)] * 7), fabric), "outs")
        self.assertEqual(fault_of(("cells", 0, [], [NONE] * 5), ("fabric", 1, 1, 1, 1)), "outs")

    def test_the_first_of_several(self):
        fabric = ("fabric", 1, 1, 1, 1)
        many = [row(), row(NONE, NONE)]
        self.assertEqual(fault_of(("cells", 5, many, [NONE] * 5), fabric), "pins")
        self.assertEqual(fault_of(("cells", 5, [row(), row(NONE)], [NONE] * 5), fabric), "cells")
        self.assertEqual(fault_of(("cells", 5, [row()], [NONE] * 5), fabric), "ins")
        self.assertEqual(fault_of(("cells", 4, [row()], [NONE] * 5), fabric), "outs")

    def test_as_many_as_there_are(self):
        for wide, high in ((1, 1), (3, 2), (12, 1), (1, 12)):
            fabric = ("fabric", wide, high, 3, 1)
            sides = 2 * (wide + high)
            cells = made_cells(wide, wide * high, sides, sides, 1)
            is_true(self, plan_right, cells, fabric, placed(cells, fabric))


class RightTest(unittest.TestCase):
    # A chain: pad 0, cells 0 and 1, output. The places lie in a row.
    CELLS = ("cells", 1, [row(pad(0)), row(cell(0))], [cell(1)])
    FABRIC = ("fabric", 3, 1, 1, 1)
    # The border sides are 0 0 up, down, left; 1 0 up, down; 2 0 up, right, down.
    PLAN = ("plan", [(0, 0), (1, 0)], [(0, 0, 0)], [(1, 0, 2)], [([0], [0] * 8), ([0], [0] * 8)])

    def test_other_right_ones(self):
        is_true(self, plan_right, self.CELLS, self.FABRIC, self.PLAN)
        is_true(self, plan_right, self.CELLS, self.FABRIC, with_item(self.PLAN, 2, [(0, 0, 3)]))
        is_true(self, plan_right, self.CELLS, self.FABRIC, with_item(self.PLAN, 3, [(1, 0, 0)]))
        is_true(self, plan_right, self.CELLS, self.FABRIC, (
            "plan", [(2, 0), (1, 0)], [(2, 0, 1)], [(1, 0, 0)], [([0], [0] * 8), ([0], [0] * 8)]))
        # Potentials below 0 where nobody is make the sum too small.
        self.check(4, [([1], [-1, -1, -1, 0, 0, 0, 0, 0]), ([0], [0] * 8)], False)
        self.check(4, [([0], [0] * 8), ([1], [0, 0, 0, -1, -1, 0, 0, 0])], False)

    def test_right_ones_with_other_potentials(self):
        cells = ("cells", 1, [row(pad(0)), row(cell(0))], [pad(0)])
        fabric = ("fabric", 1, 2, 1, 1)
        # The sides of the first place cost 0 for the input, those of the second one 1; the output follows it.
        for at, right in ((0, True), (1, True), (2, True), (3, False)):
            side = borders(fabric)[at]
            plan = ("plan", [(0, 0), (0, 1)], [side], [side], [([0], [0] * 6), ([0], [0] * 6)])
            is_true(self, plan_right, cells, fabric, plan) if right else is_false(self, plan_right, cells, fabric, plan)
        cells = ("cells", 0, [row(), row(cell(0))], [cell(0), cell(0), cell(0), cell(0)])
        sides = borders(fabric)
        plan = ("plan", [(0, 0), (0, 1)], [], sides[:4], [([], []), ([1] * 4, [-1, -1, -1, 0, 0, 0])])
        is_true(self, plan_right, cells, fabric, plan)
        is_false(self, plan_right, cells, fabric, with_item(plan, 4, [([], []), ([0] * 4, [0] * 6)]))
        is_false(self, plan_right, cells, fabric, with_item(plan, 3, sides[1:5]))

    def check(self, at, item, right):
        told = called(self, plan_right, self.CELLS, self.FABRIC, with_item(self.PLAN, at, item))
        self.assertIs(told, right, item)

    def test_wrong_spots(self):
        for spots in ([(0, 0), (2, 0)], [(0, 0), (0, 0)], [(0, 0)], [], [(0, 0), (1, 0), (2, 0)], [(0, 0), (1, 1)],
                      [(0, 0), (-1, 0)], [(3, 0), (2, 0)], [(0, 0), (1,)], [(0, 0), (1, 0, 0)], [(), (1, 0)]):
            self.check(1, spots, False)

    def test_wrong_sides(self):
        for ins in ([], [(0, 0, 0), (0, 0, 2)], [(1, 0, 0)], [(2, 0, 0)], [(0, 0, 1)], [(0, 0, 4)], [(0, 0, -1)],
                    [(0, 1, 0)], [(0, 0)], [(0, 0, 0, 0)], [()]):
            self.check(2, ins, False)
        for outs in ([], [(1, 0, 2), (1, 0, 0)], [(0, 0, 0)], [(2, 0, 1)], [(1, 0, 1)], [(1, 0, 3)], [(5, 5, 0)],
                     [(1, 0)], [(1, 0, 0, 0)]):
            self.check(3, outs, False)
        # Twice the same side for two inputs, and for two outputs.
        cells = ("cells", 2, [], [NONE, NONE])
        zeros = ([0, 0], [0] * 8)
        for ins, outs, right in (((0, 1), (0, 1), True), ((0, 0), (0, 1), False), ((0, 1), (1, 1), False)):
            sides = borders(self.FABRIC)
            plan = ("plan", [], [sides[at] for at in ins], [sides[at] for at in outs], [zeros, zeros])
            self.assertIs(plan_right(cells, self.FABRIC, plan), right)

    def test_wrong_potentials(self):
        good = ([0], [0] * 8)
        for pair in (([1], [0] * 8), ([0], [0] * 7), ([0], [0] * 9), ([], [0] * 8), ([0, 0], [0] * 8), ([], []),
                     ([0], [0, 0, 0, 0, 0, 0, 0, -1]), ([0], [0, 0, 0, 0, 0, 0, 0, 1]), ([-1], [0] * 8)):
            self.check(4, [pair, good], False)
            self.check(4, [good, pair], False)
        for potentials in ([], [good], [good, good, good]):
            self.check(4, potentials, False)
        # Those of the inputs and those of the outputs are not the same thing.
        costs = ([1], [-1, -1, -1, 0, 0, -1, -1, -1])
        self.check(4, [good, costs], False)

    def test_potentials_of_other_costs(self):
        cells = ("cells", 2, [row(pad(0), pad(1)), row(cell(0), pad(1))], [pad(0), cell(1)])
        fabric = ("fabric", 4, 1, 1, 2)
        plan = placed(cells, fabric)
        is_true(self, plan_right, cells, fabric, plan)
        is_false(self, plan_right, cells, fabric, with_item(plan, 4, plan[4][::-1]))
        zeros = [([0, 0], [0] * 10)] * 2
        self.assertIs(plan_right(cells, fabric, with_item(plan, 4, zeros)), plan[4] == zeros)

    def test_a_plan_turned_around_is_right_as_well(self):
        for cells, fabric in cases(60):
            plan = placed(cells, fabric)
            _, wide, high, _, _ = fabric
            spots = [(wide - 1 - x, high - 1 - y) for x, y in plan[1]]
            ins, outs = [[(wide - 1 - x, high - 1 - y, side ^ 2) for x, y, side in sides] for sides in plan[2:4]]
            old = borders(fabric)
            order = [old.index((wide - 1 - x, high - 1 - y, side ^ 2)) for x, y, side in old]
            potentials = [(of_rows, [of_columns[at] for at in order] if of_rows else [])
                          for of_rows, of_columns in plan[4]]
            is_true(self, plan_right, cells, fabric, ("plan", spots, ins, outs, potentials))

    def test_each_exchange_is_seen(self):
        for cells, fabric in cases(40):
            plan = placed(cells, fabric)
            least = plain_length(cells, plan[1])
            for first, second in combinations(places_of(fabric), 2):
                spots = exchanged(plan[1], first, second)
                if plain_length(cells, spots) > least:
                    is_false(self, plan_right, cells, fabric, with_item(plan, 1, spots))


if __name__ == "__main__":
    unittest.main()
