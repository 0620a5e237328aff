"""Assignments of least cost, and the potentials that show it (section Assignments)."""


def assigned(costs):
    """Returns an assignment of least cost, and potentials that are right for it."""
    matching = Matching(costs)
    for row in range(len(costs)):
        matching.take_in(row)
    return matching.assignment(), (matching.of_rows, matching.of_columns)


def assign_right(costs, assignment, potentials):
    """Returns whether a list is an assignment, and potentials are right for it (point 17.2)."""
    of_rows, of_columns = potentials
    many = many_columns(costs)
    if len(assignment) != len(costs) or len(of_rows) != len(costs) or len(of_columns) != many:
        return False
    if any([column not in range(many) for column in assignment]) or len(set(assignment)) != len(assignment):
        return False
    if any([potential > 0 for potential in of_columns]):
        return False
    for row, first in zip(costs, of_rows):
        if any([first + second > cost for cost, second in zip(row, of_columns)]):
            return False
    return sum(of_rows) + sum(of_columns) == sum([row[column] for row, column in zip(costs, assignment)])


def many_columns(costs):
    """Returns the number of the columns of costs."""
    return len(costs[0]) if costs else 0


class Matching:
    """An assignment of least cost for the rows that were taken in, with potentials that are right for it.

    `owners` has for each column the row that has it, or None. Only columns that a row has get potentials below 0.
    """

    def __init__(self, costs):
        self.costs = costs
        self.of_rows = [0] * len(costs)
        self.of_columns = [0] * many_columns(costs)
        self.owners = [None] * many_columns(costs)

    def assignment(self):
        """Returns the list of the columns of the rows."""
        columns = {row: column for column, row in enumerate(self.owners) if row is not None}
        return [columns[row] for row in range(len(self.costs))]

    def take_in(self, row):
        """Takes in a row more: the rows change columns along the way that costs least."""
        many = len(self.owners)
        rests = [None] * many
        before = [None] * many
        reached = []
        here = row
        while here is not None:
            last = reached[-1] if reached else None
            open_columns = [column for column in range(many) if column not in reached]
            for column in open_columns:
                rest = self.costs[here][column] - self.of_rows[here] - self.of_columns[column]
                if rests[column] is None or rest < rests[column]:
                    rests[column] = rest
                    before[column] = last
            gain, nearest = min([(rests[column], column) for column in open_columns])
            self._shift([row] + [self.owners[column] for column in reached], reached, gain)
            for column in open_columns:
                # What the rows on the way gain, the rests to open columns lose.
                rests[column] -= gain
            reached.append(nearest)
            here = self.owners[nearest]
        self._change_owners(row, reached[-1], before)

    def _shift(self, rows, columns, gain):
        for row in rows:
            self.of_rows[row] += gain
        for column in columns:
            self.of_columns[column] -= gain

    def _change_owners(self, row, last, before):
        column = last
        while before[column] is not None:
            self.owners[column] = self.owners[before[column]]
            column = before[column]
        self.owners[column] = row
