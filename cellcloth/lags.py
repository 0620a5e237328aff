"""Lags: the origins of the literals of gates, new weights, and circles of demands (section Moved flops)."""

from cellcloth.nets import base_of
from cellcloth.order import finished


class Wires:
    """A net with the origins of the literals of its gates.

    `pairs` has for each gate, by its node, the two origins of its literals: triples of a literal, a weight and first
    values.
    """

    def __init__(self, net):
        self.before = net
        self.first = base_of(net)
        self.gates = list(range(self.first, self.first + len(net[3])))
        self.pairs = {gate: [origin_of(net, x) for x in pair] for gate, pair in zip(self.gates, net[3])}

    def all_lags(self, lags):
        """Returns the lags of all nodes, for those of the gates."""
        return [0] * self.first + lags

    def new_weights(self, lags, gate):
        """Returns the new weights of both literals of a gate, for the lags of all nodes."""
        return [weight + lags[literal >> 1] - lags[gate] for literal, weight, _ in self.pairs[gate]]

    def allowed(self, lags):
        """Returns whether a list of integers are lags of this net (point 11.2)."""
        if len(lags) != len(self.gates) or any([lag < 0 for lag in lags]):
            return False
        all_lags = self.all_lags(lags)
        return all([weight >= 0 for gate in self.gates for weight in self.new_weights(all_lags, gate)])

    def sources(self, lags, gate):
        """Returns the gates that are origins with the new weight 0, each with the index of the literal."""
        found = []
        for pin, weight in enumerate(self.new_weights(lags, gate)):
            node = self.pairs[gate][pin][0] >> 1
            if weight == 0 and node >= self.first:
                found.append((node, pin))
        return found

    def ordered(self, lags):
        """Returns the gates, each behind those that are its origins with the new weight 0."""
        uses = {gate: [node for node, _ in self.sources(lags, gate)] for gate in self.gates}
        return finished(self.gates, uses)

    def new_levels(self, lags):
        """Returns a dict of the new levels of the gates, for the lags of all nodes (point 11.4)."""
        found = {}
        for gate in self.ordered(lags):
            found[gate] = 1 + max([0] + [found[node] for node, _ in self.sources(lags, gate)])
        return found

    def early_values(self, lags):
        """Returns the values of the gates in the cycles before their lags, by pairs of a gate and a cycle."""
        found = {}
        for cycle in range(max([0] + lags)):
            for gate in self.gates:
                if cycle < lags[gate]:
                    a, b = [early_value(found, wire, cycle) for wire in self.pairs[gate]]
                    found[(gate, cycle)] = a & b
        return found


def origin_of(net, literal):
    """Returns the literal of the origin that a literal comes to, the weight, and the list of its first values."""
    _, ins, starts, _, nexts, _ = net
    at = literal
    firsts = []
    while ins < at >> 1 <= ins + len(starts):
        if len(firsts) == len(starts):
            # So many flops, and still no other node: the first one is bound.
            return (literal, 0, [])
        flop = (at >> 1) - ins - 1
        firsts.append(starts[flop] ^ (at & 1))
        at = nexts[flop] ^ (at & 1)
    return (at, len(firsts), firsts)


def is_bound(net, flop):
    """Returns whether the flop with this index is bound."""
    node = 1 + net[1] + flop
    return origin_of(net, 2 * node)[0] == 2 * node


def early_value(values, wire, cycle):
    """Returns the value of a literal with an origin in a cycle, for the values of gates before their lags."""
    literal, weight, firsts = wire
    if cycle < weight:
        return firsts[cycle]
    return values[(literal >> 1, cycle - weight)] ^ (literal & 1)


def lags_or_circle(wires, most):
    """Returns lags of the gates with a period of at most `most` and None, or None and a circle of demands for it.

    The lags are the least ones: they begin with 0, and each is raised only where a path demands it.
    """
    lags = [0] * (wires.first + len(wires.gates))
    demands = {}
    while True:
        paths = _long_paths(wires, lags, most)
        if not paths:
            return lags[wires.first:], None
        for gate, path in paths.items():
            lags[gate] += 1
            demands[gate] = path
        circle = _circle(wires, lags, demands)
        if circle is not None:
            return None, circle


def added(wires, demand):
    """Returns what a demand adds on its right side (point 11.6)."""
    if demand[0] == "zero":
        return 0
    if demand[0] == "wire":
        return wires.pairs[demand[1]][demand[2]][1]
    return sum([wires.pairs[gate][pin][1] for gate, pin in zip(demand[1][1:], demand[2])]) - 1


def left_of(demand):
    """Returns the gate that the left side of a demand is about, or 0."""
    if demand[0] == "path":
        return demand[1][-1]
    return demand[1] if demand[0] == "wire" else 0


def right_of(wires, demand):
    """Returns the gate that the right side of a demand is about, or 0."""
    if demand[0] == "path":
        return demand[1][0]
    if demand[0] == "zero":
        return demand[1]
    node = wires.pairs[demand[1]][demand[2]][0] >> 1
    return node if node >= wires.first else 0


def _long_paths(wires, lags, most):
    """Returns a path demand for each gate at which more than `most` gates with new weights 0 begin in a row."""
    lengths = {gate: 1 for gate in wires.gates}
    behind = {}
    for gate in reversed(wires.ordered(lags)):
        for node, pin in wires.sources(lags, gate):
            if lengths[node] < lengths[gate] + 1:
                lengths[node] = lengths[gate] + 1
                behind[node] = (gate, pin)
    paths = {}
    for first in wires.gates:
        if lengths[first] > most:
            gates = [first]
            pins = []
            while len(gates) <= most:
                gate, pin = behind[gates[-1]]
                gates.append(gate)
                pins.append(pin)
            paths[first] = ("path", gates, pins)
    return paths


def _circle(wires, lags, demands):
    """Returns a circle of demands if the raised lags have come to one, otherwise None."""
    for gate in wires.gates:
        for pin, (literal, weight, _) in enumerate(wires.pairs[gate]):
            if literal >> 1 < wires.first and lags[gate] > weight:
                chain, closed = _chain_from(gate, demands, {})
                return closed if closed else [("wire", gate, pin), *chain, ("zero", left_of(chain[-1]))]
    seen = {}
    for gate in demands:
        closed = _chain_from(gate, demands, seen)[1]
        if closed:
            return closed
    return None


def _chain_from(first, demands, seen):
    """Returns the demands that raised a gate, one after the other, and those of them that close a circle, if any.

    Gates that were seen from another one are not gone through again.
    """
    gates = []
    gate = first
    while gate in demands and gate not in seen:
        seen[gate] = first
        gates.append(gate)
        gate = left_of(demands[gate])
    chain = [demands[gate] for gate in gates]
    if gate in gates:
        return chain, chain[gates.index(gate):]
    return chain, []
