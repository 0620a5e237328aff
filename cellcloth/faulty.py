"""Nets with a fault, in many tests at once (section Stuck nodes)."""

from cellcloth.columns import column_of, columns_of, columns_of_rows, with_gates
from cellcloth.nets import base_of


def sound_columns(net, tests):
    """Returns the columns of all nodes of a net without a fault."""
    rows = [[*bits, *state] for state, bits in tests]
    return with_gates(net, columns_of_rows(rows, base_of(net) - 1), (1 << len(tests)) - 1)


def faulty_columns(net, columns, fault, ones):
    """Returns the columns of all nodes of a net with a fault, for those without it."""
    node, bit = fault
    base = base_of(net)
    changed = list(columns)
    changed[node] = ones if bit == 1 else 0
    is_changed = [False] * len(columns)
    is_changed[node] = changed[node] != columns[node]
    for at in range(max(base, node + 1), len(columns)):
        a, b = net[3][at - base]
        if is_changed[a >> 1] or is_changed[b >> 1]:
            changed[at] = column_of(changed, a, ones) & column_of(changed, b, ones)
            is_changed[at] = changed[at] != columns[at]
    return changed


def finding(net, columns, fault, ones):
    """Returns the column of the tests that find a fault."""
    changed = faulty_columns(net, columns, fault, ones)
    told = 0
    for literal in net[5] + net[4]:
        told |= changed[literal >> 1] ^ columns[literal >> 1]
    return told


def answer_columns(net, columns, ones):
    """Returns the columns of the outs and then of the nexts."""
    return columns_of(columns, net[5] + net[4], ones)
