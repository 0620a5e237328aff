"""Rows of states and inputs, and what tells nodes apart in them (points 10.3 and 10.5).

The values of a node in all rows are the bits of one integer, its sight; the first row has the low bit.
"""

FEW = 8
MANY_SCATTERED = 200


def first_rows(many):
    """Returns rows of so many bits that tell the bits and 0 apart, each by itself."""
    if many <= FEW:
        return [[(row >> at) & 1 for at in range(many)] for row in range(1 << many)]
    rows = [[0] * many]
    for digit in range(many.bit_length()):
        rows.append([((at + 1) >> digit) & 1 for at in range(many)])
    word = 1
    for _ in range(MANY_SCATTERED):
        row = []
        for _ in range(many):
            # The same row of words at each call; their high bits change without a plain pattern.
            word = (word * 1103515245 + 12345) & 0x7FFFFFFF
            row.append((word >> 20) & 1)
        rows.append(row)
    return rows


def sights_of(many, gates, rows):
    """Returns the sights of node 0, of nodes with so many bits in each row, and of gates."""
    sights = [0]
    for at in range(many):
        sights.append(sum([row[at] << k for k, row in enumerate(rows)]))
    for pair in gates:
        sights.append(gate_sight(sights, pair, len(rows)))
    return sights


def gate_sight(sights, pair, many):
    """Returns the sight of a gate in so many rows, for the sights of the nodes below it."""
    return literal_sight(sights, pair[0], many) & literal_sight(sights, pair[1], many)


def literal_sight(sights, literal, many):
    """Returns the sight of a literal in so many rows."""
    sight = sights[literal >> 1]
    return sight ^ ((1 << many) - 1) if literal & 1 else sight


def shape(sight, many):
    """Returns what is equal for just those sights that agree in all of so many rows, or in none."""
    return sight ^ ((1 << many) - 1) if sight & 1 else sight


def all_apart(sights, many):
    """Returns whether each two sights agree in some of so many rows, but not in all."""
    return len(set([shape(sight, many) for sight in sights])) == len(sights)


def telling_rows(sights, many):
    """Returns the indexes of rows that tell apart what is told apart by all of so many rows."""
    groups = [0] * len(sights)
    shapes = [shape(sight, many) for sight in sights]
    found = [0]
    count = 1
    for row in range(1, many):
        numbers = {}
        finer = [numbers.setdefault((group, (told >> row) & 1), len(numbers)) for group, told in zip(groups, shapes)]
        if len(numbers) > count:
            count = len(numbers)
            groups = finer
            found.append(row)
    return found
