"""Small nets: tidy ones and swept ones (section Small nets)."""

from cellcloth.apart import all_apart, sights_of
from cellcloth.gates import Builder
from cellcloth.merger import Merger, difference_clauses, proof_for
from cellcloth.nets import base_of, fault_of, many_nodes, needed
from cellcloth.solver import integer_of, net_clauses
from cellcloth.units import Units


def tidied(net):
    """Returns the tidy net, and the ascending list of the indexes of the flops that stay."""
    _, ins, starts, gates, nexts, outs = net
    made = Builder(ins, starts)
    standing = _bases(net)
    for a, b in gates:
        standing.append(made.both(_stands(standing, a), _stands(standing, b)))
    plain = made.net([_stands(standing, x) for x in nexts], [_stands(standing, x) for x in outs])
    return _without_rest(plain)


def swept(net):
    """Returns a swept net that agrees with a net, and a paper for it."""
    _, ins, starts, gates, nexts, outs = net
    merger = Merger(ins, starts)
    standing = _bases(net)
    images = []
    for a, b in gates:
        image = merger.image(_stands(standing, a), _stands(standing, b))
        images.append(image)
        standing.append(image[0])
    other = merger.made.net([_stands(standing, x) for x in nexts], [_stands(standing, x) for x in outs])
    last = many_nodes(other) + 1
    told = [(literal, None if kept is None else proof_for(kept, last)) for literal, kept in images]
    return other, (told, merger.needed_rows())


def swept_right(net, other, paper):
    """Returns whether a paper is right for a net and another one (point 10.5)."""
    images, rows = paper
    if other[1] != net[1] or other[2] != net[2] or fault_of(other) is not None or len(images) != len(net[3]):
        return False
    standing = _bases(net) + [literal for literal, _ in images]
    if any([literal not in range(2 * many_nodes(other)) for literal in standing]):
        return False
    if not _images_right(net, other, standing, images):
        return False
    for literals, others in ((net[4], other[4]), (net[5], other[5])):
        if [_stands(standing, literal) for literal in literals] != others:
            return False
    if any([len(state) != len(net[2]) or len(inputs) != net[1] for state, inputs in rows]):
        return False
    bits = [[*inputs, *state] for state, inputs in rows]
    if any([bit not in (0, 1) for row in bits for bit in row]):
        return False
    return all_apart(sights_of(base_of(other) - 1, other[3], bits), len(bits))


def _images_right(net, other, standing, images):
    made = _copied(other)
    units = Units(net_clauses(other))
    last = many_nodes(other) + 1
    for (a, b), (literal, proof) in zip(net[3], images):
        x = _stands(standing, a)
        y = _stands(standing, b)
        if proof is None:
            if made.standing(x, y) != literal:
                return False
        else:
            units.begin()
            for clause in difference_clauses(last, integer_of(x), integer_of(y), integer_of(literal)):
                units.put(clause)
            is_proof = units.proves(proof)
            units.end()
            if not is_proof:
                return False
    return True


def _copied(net):
    """Returns a Builder that has made the gates of a net, each at its own place."""
    made = Builder(net[1], net[2])
    for k, (a, b) in enumerate(net[3]):
        made.known[(min(a, b), max(a, b))] = 2 * (base_of(net) + k)
    return made


def _bases(net):
    """Returns the literals of the nodes that are no gates, which stand for themselves."""
    return [2 * node for node in range(base_of(net))]


def _stands(standing, literal):
    """Returns what stands for a literal, for a list of the literals that stand for nodes."""
    return standing[literal >> 1] ^ (literal & 1)


def _without_rest(net):
    """Returns a net without what nobody needs, and the indexes of the flops that stay (point 10.2)."""
    _, ins, starts, gates, nexts, outs = net
    first_gate = base_of(net)
    nodes = _needed_nodes(net)
    flops = [node - 1 - ins for node in nodes if ins < node < first_gate]
    numbers = {node: node for node in range(1 + ins)}
    for node in nodes:
        if node > ins:
            numbers[node] = len(numbers)
    kept = [gates[node - first_gate] for node in nodes if node >= first_gate]
    return ("net", ins, [starts[k] for k in flops], [tuple(_renumbered(pair, numbers)) for pair in kept],
            _renumbered([nexts[k] for k in flops], numbers), _renumbered(outs, numbers)), flops


def _needed_nodes(net):
    """Returns the ascending list of the nodes that outs and the nexts of needed flops need."""
    _, ins, _, _, nexts, outs = net
    literals = list(outs)
    known = {}
    while True:
        nodes = needed(net, literals)
        found = [node for node in nodes if ins < node < base_of(net) and node not in known]
        if not found:
            return nodes
        for node in found:
            known[node] = True
            literals.append(nexts[node - 1 - ins])


def _renumbered(literals, numbers):
    return [2 * numbers[literal >> 1] + (literal & 1) for literal in literals]
