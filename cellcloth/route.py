"""Trees of wires, their tracks, and the config of cells (section Trees and tracks)."""

from cellcloth.fabric import beside, empty, opposite, places_of
from cellcloth.solver import proof_right
from cellcloth.tracks import MOST_TRACKS, keeps_apart, least_tracks, masks_of, track_clauses
from cellcloth.trees import all_trees, own_place, used_sources


def used(cells):
    """Returns the list of the used sources, in order."""
    return used_sources(cells)


def tree(cells, plan, source, shape):
    """Returns the ascending list of the wires of a tree of a used source."""
    return all_trees(cells, plan)[source][shape]


def clauses_of(cells, plan, tracks):
    """Returns the clauses for a number of tracks, and the number of their variables (point 19.4)."""
    return track_clauses(_masks(cells, plan), tracks)


def routed(cells, fabric, plan):
    """Returns the config of cells for a routing of least tracks, and a right paper."""
    shapes, tracks, many, proof = least_tracks(_masks(cells, plan))
    return _config(cells, _with_tracks(fabric, many), plan, shapes, tracks), ("routing", shapes, tracks, proof)


def routed_right(cells, fabric, plan, config, paper):
    """Returns whether a paper is right, and a config is the one for its routing (points 19.5 and 19.6)."""
    _, shapes, tracks, proof = paper
    many = config[1][3]
    masks = _masks(cells, plan)
    if many not in range(1, MOST_TRACKS + 1) or not keeps_apart(masks, shapes, tracks, many):
        return False
    if config != _config(cells, _with_tracks(fabric, many), plan, shapes, tracks):
        return False
    if many == 1:
        return len(proof) == 0
    return proof_right(track_clauses(masks, many - 1)[0], proof)


def _masks(cells, plan):
    return masks_of(list(all_trees(cells, plan).values()))


def _with_tracks(fabric, tracks):
    word, wide, high, _, pins = fabric
    return (word, wide, high, tracks, pins)


def _config(cells, fabric, plan, shapes, tracks):
    """Returns the config of cells for a plan and a routing (point 19.6)."""
    _, spots, in_sides, out_sides, _ = plan
    trees = all_trees(cells, plan)
    chosen = {source: (pair[shape], track) for (source, pair), shape, track in zip(trees.items(), shapes, tracks)}
    entries = {source: _entries(fabric, plan, source, wires) for source, (wires, _) in chosen.items()}
    settings = {place: empty(fabric) for place in places_of(fabric)}
    for at, (_, sources, table, kept, start) in enumerate(cells[2]):
        spot = spots[at]
        word, _, _, _, taps, drives = settings[spot]
        for pin, source in enumerate(sources):
            if source == ("cell", at):
                taps[pin] = 1
            elif source[0] != "none":
                taps[pin] = 2 + entries[source][spot] * fabric[3] + chosen[source][1]
        settings[spot] = (word, table, kept, start, taps, drives)
    for source, (wires, track) in chosen.items():
        for x, y, side in wires:
            is_first = source[0] == "cell" and (x, y) == own_place(plan, source)
            settings[(x, y)][5][side * fabric[3] + track] = 1 if is_first else 2 + entries[source][(x, y)]
    ins = [_end(side, chosen, ("pad", at)) for at, side in enumerate(in_sides)]
    outs = [_end(side, chosen, source) for source, side in zip(cells[3], out_sides)]
    return ("config", fabric, [settings[place] for place in places_of(fabric)], ins, outs)


def _entries(fabric, plan, source, wires):
    """Returns the sides over which a tree comes into its places; into the own place of a pad, its border side."""
    found = {}
    if source[0] == "pad":
        found[own_place(plan, source)] = plan[2][source[1]][2]
    for x, y, side in wires:
        place = beside(fabric, x, y, side)
        if place is not None:
            found[place] = opposite(side)
    return found


def _end(side, chosen, source):
    x, y, number = side
    return (x, y, number, chosen[source][1] if source in chosen else 0)
