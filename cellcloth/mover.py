"""The flops of a net whose flops are moved by lags (point 11.4)."""

from cellcloth.lags import early_value, is_bound


class Mover:
    """The flops of a moved net, for the lags of all nodes of the net.

    What a literal is of, and what a flop keeps, is told as ("node", n) for a node n of the net, and as ("flop", k)
    for the new flop k.
    """

    def __init__(self, wires, lags):
        self.before = wires.before
        self.lags = lags
        self.early = wires.early_values(lags)
        self.bound = [flop for flop in range(len(self.before[2])) if is_bound(self.before, flop)]
        self.flops = []
        self.known = {}

    def end(self, wire, gate):
        """Returns what the literal of a gate with an origin becomes: what it is of, and 1 if it is odd.

        Node 0 in the place of the gate stands for an out.
        """
        literal, weight, _ = wire
        kept = ("node", literal >> 1)
        for cycle in reversed(range(self.lags[gate], weight + self.lags[literal >> 1])):
            # A flop keeps what its origin has, so what an odd literal has is turned back.
            start = early_value(self.early, wire, cycle) ^ (literal & 1)
            if (kept, start) not in self.known:
                self.known[(kept, start)] = ("flop", len(self.flops))
                self.flops.append((kept, start))
            kept = self.known[(kept, start)]
        return kept, literal & 1

    def all_starts(self):
        """Returns the starts of all flops, the bound ones first."""
        return [self.before[2][flop] for flop in self.bound] + [start for _, start in self.flops]

    def all_nexts(self, numbers):
        """Returns the nexts of all flops, for the numbers in the moved net of what they keep."""
        literals = [self.before[4][flop] for flop in self.bound]
        told = [2 * numbers[("node", literal >> 1)] + (literal & 1) for literal in literals]
        return told + [2 * numbers[kept] for kept, _ in self.flops]

    def all_numbers(self, order):
        """Returns the numbers in the moved net of what literals are of, for the gates in their new order."""
        first = 1 + self.before[1]
        told = [("node", node) for node in range(first)]
        told.extend([("node", first + flop) for flop in self.bound])
        told.extend([("flop", k) for k in range(len(self.flops))])
        told.extend([("node", gate) for gate in order])
        return {kept: number for number, kept in enumerate(told)}
