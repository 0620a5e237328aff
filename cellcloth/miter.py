"""The search for tests that find faults, and for proofs that none does (points 21.3 and 21.4)."""

from cellcloth.joint import Joint
from cellcloth.merger import Merger
from cellcloth.nets import base_of, many_nodes, needed
from cellcloth.solver import integer_of


class Miter:
    """A net that is merged, beside which its faults are looked at one by one."""

    def __init__(self, net):
        self.original = net
        self.nodes = {node: True for node in needed(net, net[4] + net[5])}
        self.merger = Merger(net[1], net[2])
        self.images = self.merger.images_of(net)

    def test_for(self, fault):
        """Returns a test that finds a fault, or None."""
        net = self.original
        node, bit = fault
        if node not in self.nodes:
            return None
        merger = self.merger.branch()
        standing = list(self.images)
        standing[node] = bit
        base = base_of(net)
        for at in self.nodes:
            if at >= base and at > node:
                a, b = net[3][at - base]
                if _differs(standing, self.images, a) or _differs(standing, self.images, b):
                    standing[at] = merger.image(_stands(standing, a), _stands(standing, b))[0]
        for literal in net[5] + net[4]:
            if _differs(standing, self.images, literal):
                return merger.telling_row(standing[literal >> 1], self.images[literal >> 1])
        return None


def test_or_proof(net, fault):
    """Returns a test that finds a fault, and None, or None and a proof for the clauses of the fault."""
    many = many_nodes(net)
    literals = net[5] + net[4]
    nodes = needed(net, literals)
    joint = Joint(net[1], len(net[2]))
    _put_net(joint, net, nodes, 0, None)
    _put_net(joint, net, nodes, many, fault)
    proof = []
    for w, literal in enumerate(literals):
        x = integer_of(literal)
        other = moved_integer(x, many)
        if joint.image(x) != joint.image(other):
            return joint.merger.telling_row(joint.image(x), joint.image(other)), None
        d = 2 * many + w + 1
        proof.extend([[-d, x], [-d]])
    return None, joint.lemmas([sign for x in literals for sign in _both(integer_of(x), many)]) + proof + [[]]


def moved_integer(integer, by):
    """Returns an integer whose variable is greater by a number."""
    return integer + by if integer > 0 else integer - by


def _both(integer, many):
    return [integer, moved_integer(integer, many)]


def _put_net(joint, net, nodes, by, fault):
    """Puts in nodes of a net with variables that are greater by a number, with a fault or None."""
    base = base_of(net)
    for node in nodes:
        if fault is not None and node == fault[0]:
            joint.put_base(by + node + 1, fault[1])
        elif node < base:
            joint.put_base(by + node + 1, 2 * node)
        else:
            x, y = [moved_integer(integer_of(literal), by) for literal in net[3][node - base]]
            joint.put_gate(by + node + 1, x, y)


def _stands(standing, literal):
    return standing[literal >> 1] ^ (literal & 1)


def _differs(standing, others, literal):
    return standing[literal >> 1] != others[literal >> 1]
