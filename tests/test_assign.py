"""Section Assignments (points 17.1 to 17.3) and assign.py of the interface."""

import unittest
from itertools import permutations
from random import Random

from calling import called, is_false, is_true, with_item
from cellcloth.assign import assign_right, assigned


def cost_of(costs, assignment):
    return sum(row[column] for row, column in zip(costs, assignment))


def made_costs(seed, rows, columns, most):
    random = Random(seed)
    return [[random.randint(-most, most) for _ in range(columns)] for _ in range(rows)]


class AssignedTest(unittest.TestCase):
    def check(self, costs):
        told = called(self, assigned, costs)
        self.assertIs(type(told), tuple)
        assignment, potentials = told
        self.assertIs(type(potentials), tuple)
        self.assertEqual((type(assignment), type(potentials[0]), type(potentials[1])), (list, list, list))
        is_true(self, assign_right, costs, assignment, potentials)
        # What point 17.2 asks for, word by word.
        of_rows, of_columns = potentials
        columns = len(costs[0]) if costs else 0
        self.assertEqual((len(assignment), len(of_rows), len(of_columns)), (len(costs), len(costs), columns))
        self.assertEqual(len(set(assignment)), len(assignment))
        for row, first in zip(costs, of_rows):
            for cost, second in zip(row, of_columns):
                self.assertLessEqual(first + second, cost)
        self.assertLessEqual(max(of_columns, default=0), 0)
        self.assertEqual(sum(of_rows) + sum(of_columns), cost_of(costs, assignment))
        return cost_of(costs, assignment)

    def test_example(self):
        self.assertEqual(assigned([[4, 1], [2, 3]])[0], [1, 0])
        is_true(self, assign_right, [[4, 1], [2, 3]], [1, 0], ([1, 2], [0, 0]))
        is_false(self, assign_right, [[4, 1], [2, 3]], [0, 1], ([4, 3], [0, 0]))

    def test_no_rows(self):
        self.assertEqual(called(self, assigned, []), ([], ([], [])))
        is_true(self, assign_right, [], [], ([], []))
        is_false(self, assign_right, [], [0], ([], []))
        is_false(self, assign_right, [], [], ([0], []))
        is_false(self, assign_right, [], [], ([], [0]))

    def test_one_row(self):
        self.assertEqual(self.check([[7]]), 7)
        self.assertEqual(self.check([[-7]]), -7)
        self.assertEqual(self.check([[5, 3, 9, 3]]), 3)
        self.assertEqual(self.check([[-5, -3, 0]]), -5)

    def test_least_of_all(self):
        for seed in range(300):
            random = Random(seed)
            rows = random.randint(1, 5)
            costs = made_costs(seed, rows, random.randint(rows, 6), random.choice((1, 3, 100, 2 ** 300)))
            least = min(cost_of(costs, columns) for columns in permutations(range(len(costs[0])), rows))
            self.assertEqual(self.check(costs), least)

    def test_equal_costs(self):
        for rows, columns in ((1, 1), (4, 4), (3, 7), (60, 60)):
            for cost in (0, -4, 9):
                self.assertEqual(self.check([[cost] * columns for _ in range(rows)]), cost * rows)

    def test_many_columns_and_great_costs(self):
        for rows in (1, 30, 59, 60):
            self.check(made_costs(rows, rows, 60, 20))
            self.check(made_costs(rows, rows, 60, 2 ** 400))
        costs = [[(row - column) ** 2 for column in range(60)] for row in range(60)]
        self.assertEqual(self.check(costs), 0)
        self.assertEqual(self.check([row[::-1] for row in costs]), 0)
        # More columns than the document limits.
        self.check(made_costs(1, 50, 80, 9))


class RightTest(unittest.TestCase):
    COSTS = [[4, 1, 5], [2, 3, 9]]

    def test_right_ones_of_any_maker(self):
        for potentials in (([1, 2], [0, 0, 0]), ([2, 2], [0, -1, 0]), ([2, 3], [-1, -1, 0]), ([5, 6], [-4, -4, 0])):
            is_true(self, assign_right, self.COSTS, [1, 0], potentials)
        # Two columns are as good.
        is_true(self, assign_right, [[1, 1]], [0], ([1], [0, 0]))
        is_true(self, assign_right, [[1, 1]], [1], ([1], [0, 0]))

    def test_wrong_assignments(self):
        for assignment in ([], [1], [1, 0, 2], [1, 1], [0, 0], [1, 3], [3, 0], [-2, 0], [1, -3], [0, 1], [1, 2], [2, 0]):
            is_false(self, assign_right, self.COSTS, assignment, ([1, 2], [0, 0, 0]))
        # The sum of the potentials is the cost, but one column stands twice.
        is_false(self, assign_right, [[1, 5], [1, 5]], [0, 0], ([1, 1], [0, 0]))
        # A column counted from the end.
        is_false(self, assign_right, [[5, 1]], [-1], ([1], [0, 0]))

    def test_wrong_lengths(self):
        for potentials in (([1, 2], [0, 0]), ([1, 2], []), ([1, 2], [0, 0, 0, 0]), ([3], [0, 0, 0]),
                           ([1, 2, 0], [0, 0, 0]), ([], [0, 0, 0])):
            is_false(self, assign_right, self.COSTS, [1, 0], potentials)

    def test_wrong_potentials(self):
        # A sum above a cost, with the right sum of all.
        is_false(self, assign_right, self.COSTS, [1, 0], ([0, 3], [0, 0, 0]))
        is_false(self, assign_right, self.COSTS, [1, 0], ([6, 2], [0, -5, 0]))
        # A column's potential above 0.
        is_false(self, assign_right, self.COSTS, [1, 0], ([0, 2], [0, 1, 0]))
        is_false(self, assign_right, self.COSTS, [1, 0], ([0, 2], [0, 0, 1]))
        # Another sum of all: too small, also by a column that nobody has.
        is_false(self, assign_right, self.COSTS, [1, 0], ([1, 1], [0, 0, 0]))
        is_false(self, assign_right, self.COSTS, [1, 0], ([1, 2], [0, 0, -1]))

    def test_each_change_is_seen(self):
        for seed in range(60):
            random = Random(seed)
            rows = random.randint(1, 6)
            costs = made_costs(seed, rows, random.randint(rows, 8), random.choice((2, 50, 2 ** 200)))
            assignment, (of_rows, of_columns) = assigned(costs)
            for by in (-1, 1):
                at = random.randrange(rows)
                is_false(self, assign_right, costs, assignment, (with_item(of_rows, at, of_rows[at] + by), of_columns))
                at = random.randrange(len(of_columns))
                wrong = with_item(of_columns, at, of_columns[at] + by)
                is_false(self, assign_right, costs, assignment, (of_rows, wrong))
            for columns in permutations(range(len(costs[0])), min(rows, 3)):
                other = list(columns) + assignment[3:]
                right = len(set(other)) == rows and cost_of(costs, other) == cost_of(costs, assignment)
                self.assertIs(assign_right(costs, other, (of_rows, of_columns)), right)


if __name__ == "__main__":
    unittest.main()
