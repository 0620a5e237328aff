"""The values of nodes in many cases at once.

A column has the values of a node in all cases as the bits of one integer; the first case has the low bit. The column
of 1 is called `ones`.
"""


def column_of(columns, literal, ones):
    """Returns the column of a literal, for those of all nodes."""
    return columns[literal >> 1] ^ (ones if literal & 1 else 0)


def columns_of(columns, literals, ones):
    """Returns the columns of literals, for those of all nodes."""
    return [column_of(columns, literal, ones) for literal in literals]


def with_gates(net, columns, ones):
    """Returns the columns of all nodes of a net, for those of its inputs and flops."""
    found = [0, *columns]
    for a, b in net[3]:
        found.append(column_of(found, a, ones) & column_of(found, b, ones))
    return found


def counting_columns(many):
    """Returns for each of so many bits the column of its values for all numbers that these bits can have."""
    found = []
    for at in range(many):
        half = 1 << at
        column = ((1 << half) - 1) << half
        for k in range(at + 1, many):
            column |= column << (1 << k)
        found.append(column)
    return found


def columns_of_rows(rows, many):
    """Returns for each of so many bits the column of its values in rows."""
    return [sum([row[at] << k for k, row in enumerate(rows)]) for at in range(many)]
