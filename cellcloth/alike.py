"""Classes of flops that keep equal bits in two nets, and papers of clauses (points 23.2 and 23.5)."""

from cellcloth.columns import columns_of, with_gates
from cellcloth.joint import Joint
from cellcloth.nets import base_of, many_nodes
from cellcloth.solver import integer_of, net_clauses
from cellcloth.units import Units

CYCLES = 100
LANES = 60


class Two:
    """Two nets with equal numbers of inputs and of outs, and the variables of point 23.2.

    `starts` and `nexts` have the starts of the flops of both nets, and the integers of their nexts; `flops` has their
    variables.
    """

    def __init__(self, net, other):
        self.nets = (net, other)
        self.shared = 1 + net[1]
        self.more = many_nodes(net)
        self.starts = net[2] + other[2]
        self.flops = [self.shared + at + 1 for at in range(len(net[2]))]
        self.flops.extend([self.more + self.shared + at + 1 for at in range(len(other[2]))])
        self.nexts = self._integers(0, net[4]) + self._integers(1, other[4])
        self.outs = (self._integers(0, net[5]), self._integers(1, other[5]))

    def clauses(self):
        """Returns the clauses of both nets."""
        second = [[self._moved(1, integer) for integer in clause] for clause in net_clauses(self.nets[1])]
        return net_clauses(self.nets[0]) + second

    def joined(self, classes):
        """Returns both nets as one merged net, for the classes of the flops; the class 0 is that of the node 0."""
        many = max([0] + classes)
        ins = self.nets[0][1]
        joint = Joint(ins, many)
        for node in range(self.shared):
            joint.put_base(node + 1, 2 * node)
        for variable, at, first in zip(self.flops, classes, self.starts):
            joint.put_base(variable, first if at == 0 else 2 * (ins + at) + first)
        for which, net in enumerate(self.nets):
            for k, pair in enumerate(net[3]):
                x, y = self._integers(which, pair)
                joint.put_gate(self._moved(which, base_of(net) + k + 1), x, y)
        return joint

    def _integers(self, which, literals):
        return [self._moved(which, integer_of(literal)) for literal in literals]

    def _moved(self, which, integer):
        if which == 0 or abs(integer) <= self.shared:
            return integer
        return integer + self.more if integer > 0 else integer - self.more


def clauses_paper(net, other):
    """Returns a right paper of clauses if two nets match, otherwise None."""
    two = Two(net, other)
    classes = _first_classes(net, other)
    if classes is None:
        return None
    while True:
        joint = two.joined(classes)
        finer = _finer(two, joint, classes)
        if max([0] + finer) == max([0] + classes):
            break
        classes = finer
    if any([joint.image(x) != joint.image(y) for x, y in zip(two.outs[0], two.outs[1])]):
        return None
    clauses = _class_clauses(classes, two.starts)
    proofs = []
    for clause in clauses:
        proofs.append(joint.lemmas([two.nexts[abs(integer) - 1] for integer in clause]) + [[]])
    for x, y in zip(two.outs[0], two.outs[1]):
        proof = joint.lemmas([x, y]) + [[]]
        proofs.extend([proof, proof])
    return ("clauses", clauses, proofs)


def clauses_right(net, other, clauses, proofs):
    """Returns whether a paper of clauses is right (point 23.2)."""
    two = Two(net, other)
    many = len(two.starts)
    for clause in clauses:
        if any([integer == 0 or abs(integer) > many for integer in clause]):
            return False
        if not any([two.starts[abs(integer) - 1] == (1 if integer > 0 else 0) for integer in clause]):
            return False
    if len(proofs) != len(clauses) + 2 * len(net[5]):
        return False
    units = Units(two.clauses() + [[_signed(two.flops, flop) for flop in clause] for clause in clauses])
    wrongs = [[-_signed(two.nexts, flop) for flop in clause] for clause in clauses]
    for x, y in zip(two.outs[0], two.outs[1]):
        wrongs.extend([[-x, y], [x, -y]])
    for integers, proof in zip(wrongs, proofs):
        units.begin()
        for integer in integers:
            units.put([integer])
        is_proof = units.proves(proof)
        units.end()
        if not is_proof:
            return False
    return True


def _signed(integers, flop):
    """Returns the integer at the place of a flop, which counts from 1 on, negative if the flop is."""
    return integers[flop - 1] if flop > 0 else -integers[-flop - 1]


def _class_clauses(classes, starts):
    """Returns the clauses which say that the bits of each class are equal."""
    firsts = {}
    clauses = []
    for at, (number, start) in enumerate(zip(classes, starts)):
        # What holds if the flop has its other bit.
        flop = at + 1 if start == 0 else -at - 1
        if number == 0:
            clauses.append([-flop])
        elif number not in firsts:
            firsts[number] = flop
        else:
            clauses.extend([[-firsts[number], flop], [firsts[number], -flop]])
    return clauses


def _finer(two, joint, classes):
    """Returns classes of flops that also have equal bits in the next cycle, whenever they have them now."""
    images = [joint.image(integer) ^ first for integer, first in zip(two.nexts, two.starts)]
    return _numbered(list(zip(classes, images)), (0, 0))


def _numbered(keys, nothing):
    """Returns the numbers of equal keys, from 0 for `nothing` on."""
    numbers = {nothing: 0}
    return [numbers.setdefault(key, len(numbers)) for key in keys]


def _first_classes(net, other):
    """Returns classes of flops that have equal bits in some runs; None if these show a difference of the nets."""
    ones = (1 << LANES) - 1
    starts = net[2] + other[2]
    states = [[ones if bit == 1 else 0 for bit in one[2]] for one in (net, other)]
    firsts = states[0] + states[1]
    seen = [0] * len(starts)
    word = 1
    for _ in range(CYCLES):
        inputs = []
        for _ in range(net[1]):
            word = (word * 6364136223846793005 + 1442695040888963407) & 0xFFFFFFFFFFFFFFFF
            inputs.append(word >> 4)
        outs = []
        for which, one in enumerate((net, other)):
            columns = with_gates(one, [*inputs, *states[which]], ones)
            states[which] = columns_of(columns, one[4], ones)
            outs.append(columns_of(columns, one[5], ones))
        if outs[0] != outs[1]:
            return None
        seen = [known << LANES | now ^ first for known, now, first in zip(seen, states[0] + states[1], firsts)]
    return _numbered(seen, 0)
