"""A net in which no two nodes agree or are opposite, made gate by gate (point 10.4)."""

from cellcloth.apart import first_rows, gate_sight, literal_sight, shape, sights_of, telling_rows
from cellcloth.gates import Builder
from cellcloth.nets import base_of, needed
from cellcloth.solver import gate_clauses, integer_of, solve


class Merger:
    """A net with so many inputs and flops with these starts; all of its nodes are told apart by its rows."""

    def __init__(self, ins, starts):
        self.made = Builder(ins, starts)
        self.ins = ins
        self.many_bits = ins + len(starts)
        self.rows = first_rows(self.many_bits)
        self.sights = sights_of(self.many_bits, [], self.rows)
        self.nodes = {}
        self.proven = {}
        self._note_nodes()

    def image(self, a, b):
        """Returns a literal that always has the value of a gate of two literals, and None or a kept proof.

        A kept proof is a pair: a proof, and the nodes that its variables stand for. The last of these is -1 for the
        gate itself, whose variable is not known yet.
        """
        pair = (min(a, b), max(a, b))
        if pair in self.proven:
            return self.proven[pair]
        told = self.made.standing(a, b)
        while told is None:
            sight = gate_sight(self.sights, pair, len(self.rows))
            node = self.nodes.get(shape(sight, len(self.rows)))
            if node is None:
                told = self._new_gate(pair, sight)
            else:
                literal = 2 * node + (0 if sight == self.sights[node] else 1)
                kept = self._proof(pair, literal)
                if kept is not None:
                    self.proven[pair] = (literal, kept)
                    return self.proven[pair]
        return (told, None)

    def images_of(self, net):
        """Returns the literals that the nodes of a net with these inputs and flops become."""
        images = [2 * node for node in range(base_of(net))]
        for pair in net[3]:
            a, b = [images[literal >> 1] ^ (literal & 1) for literal in pair]
            images.append(self.image(a, b)[0])
        return images

    def branch(self):
        """Returns a merger of the same nodes, to go on with apart from this one."""
        told = Merger(self.ins, self.made.starts)
        made = told.made
        made.gates = list(self.made.gates)
        made.known = {pair: self.made.known[pair] for pair in self.made.known}
        told.rows = list(self.rows)
        told.sights = list(self.sights)
        told.nodes = {sight: self.nodes[sight] for sight in self.nodes}
        told.proven = {pair: self.proven[pair] for pair in self.proven}
        return told

    def telling_row(self, literal, other):
        """Returns a state and input bits for which two literals, which are not always equal, have other values."""
        many = len(self.rows)
        differ = literal_sight(self.sights, literal, many) ^ literal_sight(self.sights, other, many)
        row = self.rows[[at for at in range(many) if (differ >> at) & 1][0]]
        return row[self.ins:], row[:self.ins]

    def needed_rows(self):
        """Returns rows that tell all nodes apart, as pairs of a state and input bits."""
        indexes = telling_rows(self.sights, len(self.rows))
        return [(self.rows[at][self.ins:], self.rows[at][:self.ins]) for at in indexes]

    def _new_gate(self, pair, sight):
        self.nodes[shape(sight, len(self.rows))] = len(self.sights)
        self.sights.append(sight)
        return self.made.both(pair[0], pair[1])

    def _note_nodes(self):
        many = len(self.rows)
        self.nodes = {shape(sight, many): node for node, sight in enumerate(self.sights)}

    def _proof(self, pair, literal):
        """Returns a kept proof that a gate has the value of a literal, or takes in a row in which it has not."""
        net = self.made.net([], [])
        nodes = needed(net, [pair[0], pair[1], literal])
        numbers = {node: at + 1 for at, node in enumerate(nodes)}
        clauses = []
        for node in nodes:
            if node > self.many_bits:
                x, y = [_integer(numbers, other) for other in net[3][node - self.many_bits - 1]]
                clauses.extend(gate_clauses(numbers[node], x, y))
            elif node == 0:
                clauses.append([-1])
        x, y, z = [_integer(numbers, other) for other in (pair[0], pair[1], literal)]
        clauses.extend(difference_clauses(len(nodes) + 1, x, y, z))
        answer, told = solve(clauses, len(nodes) + 1)
        if answer == "no":
            return (told, nodes + [-1])
        self._take_row([told[numbers[node] - 1] if node in numbers else 0 for node in range(1, self.many_bits + 1)])
        return None

    def _take_row(self, row):
        """Takes in one row more."""
        values = [0, *row]
        for pair in self.made.gates:
            values.append(gate_sight(values, pair, 1))
        self.sights = [sight | value << len(self.rows) for sight, value in zip(self.sights, values)]
        self.rows.append(row)
        self._note_nodes()


def difference_clauses(gate, x, y, z):
    """Returns the clauses that say that a gate of the integers x and y differs from z (point 10.5)."""
    return gate_clauses(gate, x, y) + [[gate, z], [-gate, -z]]


def proof_for(kept, gate):
    """Returns the proof of a kept one, if the gate has this variable."""
    proof, nodes = kept
    variables = [0] + [gate if node == -1 else node + 1 for node in nodes]
    return [[variables[v] if v > 0 else -variables[-v] for v in clause] for clause in proof]


def _integer(numbers, literal):
    integer = integer_of(literal)
    number = numbers[literal >> 1]
    return number if integer > 0 else -number
