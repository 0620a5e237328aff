"""Nets with a fault, in many tests at once (section Stuck nodes).

A column has the values of a node in all tests as the bits of one integer; the first test has the low bit.
"""

from cellcloth.nets import base_of


def columns_of(net, tests):
    """Returns the columns of all nodes of a net without a fault."""
    _, ins, starts, gates, _, _ = net
    columns = [0] * base_of(net)
    for at, (state, bits) in enumerate(tests):
        for k, bit in enumerate([*bits, *state]):
            columns[1 + k] |= bit << at
    ones = (1 << len(tests)) - 1
    for a, b in gates:
        columns.append(column_of(columns, a, ones) & column_of(columns, b, ones))
    return columns


def column_of(columns, literal, ones):
    """Returns the column of a literal; `ones` is the column of 1."""
    return columns[literal >> 1] ^ (ones if literal & 1 else 0)


def faulty_columns(net, columns, fault, ones):
    """Returns the columns of all nodes of a net with a fault, for those without it."""
    node, bit = fault
    base = base_of(net)
    changed = list(columns)
    changed[node] = ones if bit == 1 else 0
    is_changed = [False] * len(columns)
    is_changed[node] = changed[node] != columns[node]
    for at in range(max(base, node + 1), len(columns)):
        a, b = net[3][at - base]
        if is_changed[a >> 1] or is_changed[b >> 1]:
            changed[at] = column_of(changed, a, ones) & column_of(changed, b, ones)
            is_changed[at] = changed[at] != columns[at]
    return changed


def finding(net, columns, fault, ones):
    """Returns the column of the tests that find a fault."""
    changed = faulty_columns(net, columns, fault, ones)
    told = 0
    for literal in net[5] + net[4]:
        told |= changed[literal >> 1] ^ columns[literal >> 1]
    return told


def answer_columns(net, columns, ones):
    """Returns the columns of the outs and then of the nexts."""
    return [column_of(columns, literal, ones) for literal in net[5] + net[4]]
