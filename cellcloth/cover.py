"""Coverings of a net with tables, and their papers (section Coverings)."""

from cellcloth.nets import base_of, many_nodes, needed
from cellcloth.ways import Ways


def covered(net, k):
    """Returns a covering of a net with tables of at most k nodes, and its paper."""
    labels, ways = _labels_and_ways(net, k)
    first = base_of(net)
    cuts = {}
    wanted = [literal >> 1 for literal in net[4] + net[5]]
    uses = _uses(net)
    while wanted:
        gate = wanted.pop()
        if gate >= first and gate not in cuts:
            cuts[gate] = _cut_for(net, k, gate, labels, uses)
            wanted.extend(cuts[gate])
    tables = [(gate, cuts[gate], cut_bits(net, gate, cuts[gate])) for gate in sorted(cuts)]
    return tables, (labels[first:], ways)


def cut_bits(net, gate, cut):
    """Returns the bits of a gate for a cut of it (point 12.2)."""
    many = 1 << len(cut)
    ones = (1 << many) - 1
    told = {}
    for at, node in enumerate(cut):
        told[node] = sum([1 << number for number in range(many) if (number >> at) & 1])
    for node in _nodes_above(net, gate, cut):
        words = [told[literal >> 1] ^ (ones if literal & 1 else 0) for literal in net[3][node - base_of(net)]]
        told[node] = words[0] & words[1]
    return told[gate]


def covered_right(net, k, tables, paper):
    """Returns whether tables are a covering of least heights, and a paper is right for it (points 12.2 and 12.5)."""
    labels, ways = paper
    # A right paper has no other labels than these (point 12.5), and then the cuts that it asks for exist.
    all_labels, _ = _labels_and_ways(net, k)
    first = base_of(net)
    if labels != all_labels[first:] or len(ways) != len(labels):
        return False
    if not _is_covering(net, k, tables) or not _heights_right(net, tables, all_labels):
        return False
    return all([_ways_right(net, k, first + at, all_labels, told) for at, told in enumerate(ways)])


def _labels_and_ways(net, k):
    """Returns the labels of all nodes, and for each gate None or the ways of point 12.5."""
    first = base_of(net)
    labels = [0] * first
    ways = []
    for gate, pair in enumerate(net[3], start=first):
        below = [literal >> 1 for literal in pair]
        most = max([labels[node] for node in below])
        if most == 0:
            labels.append(1)
            ways.append(None)
            continue
        search = Ways(net, gate, labels, most - 1)
        if search.found(k + 1):
            labels.append(most + 1)
            ways.append(search.told())
        else:
            labels.append(most)
            # The ways of a node below with the same label end at a gate that this gate needs, too.
            ways.append(ways[[node for node in below if labels[node] == most][0] - first])
    return labels, ways


def _cut_for(net, k, gate, labels, uses):
    """Returns a cut of a gate whose nodes have lower labels."""
    search = Ways(net, gate, labels, labels[gate] - 1)
    search.found(k)
    return _widened(net, k, search.cut(), uses)


def _widened(net, k, cut, uses):
    """Returns a cut with gates that are used once alone replaced by the nodes below, as long as k nodes are enough."""
    wider = cut
    while wider is not None:
        cut = wider
        wider = _wider(net, k, cut, uses)
    return cut


def _wider(net, k, cut, uses):
    """Returns a cut with one gate replaced by the nodes below, or None."""
    first = base_of(net)
    for node in reversed(cut):
        if node >= first and uses[node] == 1:
            others = [literal >> 1 for literal in net[3][node - first]]
            wider = sorted(set([other for other in cut + others if other != node]))
            if len(wider) <= k:
                return wider
    return None


def _uses(net):
    """Returns for each node in how many literals of gates, nexts and outs it stands."""
    uses = [0] * many_nodes(net)
    for literals in [*net[3], net[4], net[5]]:
        for literal in literals:
            uses[literal >> 1] += 1
    return uses


def _nodes_above(net, gate, cut):
    """Returns the ascending list of the gates from a gate down to a cut, without the cut."""
    first = base_of(net)
    marked = {gate: True}
    for node in range(gate, first - 1, -1):
        if node in marked:
            for literal in net[3][node - first]:
                if literal >> 1 not in cut:
                    marked[literal >> 1] = True
    return sorted(marked)


def _is_covering(net, k, tables):
    first = base_of(net)
    gates = [gate for gate, _, _ in tables]
    if gates != sorted(set(gates)) or any([gate not in range(first, many_nodes(net)) for gate in gates]):
        return False
    has_value = {node: True for node in list(range(1, first)) + gates}
    for gate, cut, bits in tables:
        if any([node not in has_value for node in cut]) or not _is_cut(net, k, gate, cut):
            return False
        if bits != cut_bits(net, gate, cut):
            return False
    return all([literal >> 1 < first or literal >> 1 in has_value for literal in net[4] + net[5]])


def _is_cut(net, k, gate, cut):
    """Returns whether a list of nodes other than 0 is a cut of a gate (point 12.1)."""
    if len(cut) > k or cut != sorted(set(cut)) or any([node >= gate for node in cut]):
        return False
    return _nodes_above(net, gate, cut)[0] >= base_of(net)


def _heights_right(net, tables, labels):
    heights = {node: 0 for node in range(base_of(net))}
    for gate, cut, _ in tables:
        heights[gate] = 1 + max([heights[node] for node in cut])
        if heights[gate] != labels[gate]:
            return False
    return True


def _ways_right(net, k, gate, labels, ways):
    """Returns whether what is told for a gate are right ways for its label (point 12.5)."""
    label = labels[gate]
    if ways is None or label == 1:
        return ways is None and label == 1
    nodes = [node for way in ways for node in way]
    if len(ways) != k + 1 or len(set(nodes)) != len(nodes):
        return False
    if any([node not in range(1, gate) or labels[node] > label - 2 for node in nodes]):
        return False
    first = base_of(net)
    ends = [node for node in needed(net, [2 * gate]) if node == gate or node >= first and labels[node] >= label - 1]
    last_nodes = {literal >> 1: True for end in ends for literal in net[3][end - first]}
    return all([_is_way(net, way) and way[-1] in last_nodes for way in ways])


def _is_way(net, way):
    """Returns whether a list of nodes goes up from an input or a flop."""
    first = base_of(net)
    if not way or way[0] >= first:
        return False
    for below, node in zip(way, way[1:]):
        if node < first or below not in [literal >> 1 for literal in net[3][node - first]]:
            return False
    return True
