"""Nets of gates: their faults, values, cycles and levels (section Nets)."""

from cellcloth.errors import KindError


def check(net):
    """Raises KindError with the first fault of what looks like a net."""
    fault = fault_of(net)
    if fault is not None:
        raise KindError(fault)


def fault_of(net):
    """Returns the text of the first fault of what looks like a net, or None."""
    _, _, starts, gates, nexts, outs = net
    base = base_of(net)
    for k, start in enumerate(starts):
        if start not in (0, 1):
            return f"start {k}"
    for k, gate in enumerate(gates):
        if any([literal < 0 or literal >= 2 * (base + k) for literal in gate]):
            return f"gate {k}"
    if len(nexts) != len(starts):
        return "nexts"
    for word, literals in (("next", nexts), ("out", outs)):
        for k, literal in enumerate(literals):
            if literal < 0 or literal >= 2 * many_nodes(net):
                return f"{word} {k}"
    return None


def base_of(net):
    """Returns the number of the nodes that are no gates, which is the node of the first gate."""
    return 1 + net[1] + len(net[2])


def many_nodes(net):
    """Returns the number of the nodes of a net."""
    return base_of(net) + len(net[3])


def values(net, state, bits):
    """Returns the list of the values of all nodes for a state and the list of the input bits."""
    row = [0, *bits, *state]
    for first, second in net[3]:
        row.append(valued(row, first) & valued(row, second))
    return row


def valued(row, literal):
    """Returns the value of a literal for a list of the values of all nodes."""
    return row[literal >> 1] ^ (literal & 1)


def step(net, state, bits):
    """Returns the list of the bits that are told in a cycle, and the next state."""
    row = values(net, state, bits)
    return [valued(row, literal) for literal in net[5]], [valued(row, literal) for literal in net[4]]


def run(net, rows):
    """Returns the lists of the bits that are told for lists of input bits, from the starts on."""
    told = []
    state = net[2]
    for bits in rows:
        row, state = step(net, state, bits)
        told.append(row)
    return told


def levels(net):
    """Returns the list of the levels of all nodes."""
    found = [0] * base_of(net)
    for first, second in net[3]:
        found.append(1 + max(found[first >> 1], found[second >> 1]))
    return found


def depth(net):
    """Returns the greatest level of the nodes of nexts and outs."""
    found = levels(net)
    return max([0] + [found[literal >> 1] for literal in net[4] + net[5]])


def needed(net, literals):
    """Returns the ascending list of the nodes that literals need."""
    base = base_of(net)
    marked = [False] * many_nodes(net)
    for literal in literals:
        marked[literal >> 1] = True
    # The nodes of a gate lie below it, so going down meets each gate behind all that need it.
    for k in reversed(range(len(net[3]))):
        if marked[base + k]:
            for literal in net[3][k]:
                marked[literal >> 1] = True
    return [node for node, is_needed in enumerate(marked) if is_needed]
