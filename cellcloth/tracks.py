"""Shapes and tracks for sources, as few tracks as there can be, and proofs of it (points 19.3 to 19.5).

What is looked at here are masks: for each source, for both shapes, an integer with a bit for each wire of its tree.
"""

from cellcloth.attempt import Attempt
from cellcloth.errors import LimitError
from cellcloth.search import Search

MOST_TRACKS = 8
# Beyond so many clashes a search is seen as a long one.
FEW_CLASHES = 3000
FEW_CHANGES = 10000
CHANGES_BESIDE_A_CLASH = 4


def masks_of(trees):
    """Returns the masks of pairs of trees."""
    numbers = {}
    masks = []
    for pair in trees:
        masks.append([sum([1 << numbers.setdefault(wire, len(numbers)) for wire in tree]) for tree in pair])
    return masks


def numbered(many, tracks):
    """Returns for each of so many sources, for both shapes, the list of the variables of its tracks."""
    found = []
    last = 0
    for at in range(many):
        wide = min(at + 1, tracks)
        found.append([list(range(last + 1, last + wide + 1)), list(range(last + wide + 1, last + 2 * wide + 1))])
        last += 2 * wide
    return found


def track_clauses(masks, tracks):
    """Returns the clauses for so many tracks, and the number of their variables (point 19.4)."""
    variables = numbered(len(masks), tracks)
    clauses = [pair[0] + pair[1] for pair in variables]
    for i in range(len(masks)):
        for j in range(i + 1, len(masks)):
            for shape in range(2):
                for other in range(2):
                    if masks[i][shape] & masks[j][other]:
                        clauses.extend([[-one, -two] for one, two in zip(variables[i][shape], variables[j][other])])
    return clauses, max([0] + [pair[1][-1] for pair in variables])


def keeps_apart(masks, shapes, tracks, many):
    """Returns whether two lists are a routing for so many tracks (point 19.3)."""
    if len(shapes) != len(masks) or len(tracks) != len(masks):
        return False
    taken = [0] * many
    for at, (shape, track) in enumerate(zip(shapes, tracks)):
        if shape not in (0, 1) or track not in range(min(at + 1, many)) or taken[track] & masks[at][shape]:
            return False
        taken[track] |= masks[at][shape]
    return True


def least_tracks(masks):
    """Returns the shapes and the tracks of a routing for the least number of tracks, this number, and its proof."""
    group = _apart_group(masks)
    many = max(1, len(group))
    if many > MOST_TRACKS:
        raise LimitError("tracks")
    proof = [] if many == 1 else _crowd_proof(group, many - 1, numbered(len(masks), many - 1))
    while many <= MOST_TRACKS:
        search = _search_for(masks, many)
        found = search.finds(FEW_CLASHES)
        if found is None:
            return _from_above(masks, many, proof)
        if found:
            shapes, tracks = _routing_of(masks, many, search.bits())
            return shapes, tracks, many, proof
        proof = search.proof
        many += 1
    raise LimitError("tracks")


def _from_above(masks, least, proof):
    """Returns what `least_tracks` does, where the proof shows that fewer tracks than `least` are not enough.

    A routing for some tracks more is often found fast. Then only the last proof may take long.
    """
    many = least
    routing = None
    while routing is None and many <= MOST_TRACKS:
        attempt = Attempt(masks, many)
        if attempt.succeeds(FEW_CHANGES):
            routing = attempt.routing()
        else:
            many += 1
    while many > least:
        better, told = _settled(masks, many - 1)
        if better is None:
            proof = told
            break
        routing = better
        many -= 1
    if many > MOST_TRACKS:
        raise LimitError("tracks")
    return routing[0], routing[1], many, proof


def _settled(masks, tracks):
    """Returns a routing, and None; or None, and a proof that there is none. Searches and attempts take turns."""
    search = _search_for(masks, tracks)
    attempt = Attempt(masks, tracks)
    most = FEW_CLASHES
    while True:
        found = search.finds(most)
        if found is not None:
            return (_routing_of(masks, tracks, search.bits()), None) if found else (None, search.proof)
        if attempt.succeeds(CHANGES_BESIDE_A_CLASH * most):
            return attempt.routing(), None
        most *= 2


def _search_for(masks, tracks):
    clauses, last = track_clauses(masks, tracks)
    return Search(last, clauses, True)


def _routing_of(masks, tracks, bits):
    chosen = [_chosen(pair, bits) for pair in numbered(len(masks), tracks)]
    return [shape for shape, _ in chosen], [track for _, track in chosen]


def _chosen(pair, bits):
    """Returns the first shape and track of a source whose variable is 1."""
    for shape in range(2):
        for track, variable in enumerate(pair[shape]):
            if bits[variable - 1] == 1:
                return shape, track
    return 0, 0


def _apart_group(masks):
    """Returns sources, ascending, of which each two need different tracks whatever their shapes: as many as are found.
    """
    rivals = []
    for one in masks:
        rivals.append([all([a & b != 0 for a in one for b in other]) for other in masks])
    ranks = sorted([(-sum(row), at) for at, row in enumerate(rivals)])
    order = [source for _, source in ranks]
    best = []
    for first in range(len(masks)):
        group = [first]
        for other in order:
            if other not in group and all([rivals[other][at] for at in group]):
                group.append(other)
        if len(group) > len(best):
            best = group
    return sorted(best)


def _crowd_proof(group, tracks, variables):
    """Returns a proof that one source more than there are tracks cannot all have different ones.

    For each set of tracks, ascending, it is shown that the first sources, one more than the set has tracks, are not
    all on tracks of the set.
    """
    proof = []
    for word in range(1, 1 << tracks):
        inside = [track for track in range(tracks) if (word >> track) & 1]
        firsts = group[:len(inside) + 1]
        outside = []
        for source in firsts:
            for row in variables[source]:
                outside.extend([variable for track, variable in enumerate(row) if track not in inside])
        for row in variables[firsts[-1]]:
            proof.extend([[-variable] + outside for track, variable in enumerate(row) if track in inside])
        proof.append(outside)
    return proof
