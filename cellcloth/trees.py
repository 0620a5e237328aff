"""Trees of wires from sources to their ends (points 19.1 and 19.2)."""

from cellcloth.fabric import STEPS


def used_sources(cells):
    """Returns the used sources in order: the pads and cells that have ends."""
    _, ins, rows, outs = cells
    has_ends = {source: True for source in outs}
    for at, (_, sources, _, _, _) in enumerate(rows):
        for source in sources:
            if source != ("cell", at):
                has_ends[source] = True
    all_sources = [("pad", number) for number in range(ins)] + [("cell", number) for number in range(len(rows))]
    return [source for source in all_sources if source in has_ends]


def own_place(plan, source):
    """Returns the own place of a pad or a cell."""
    _, spots, ins, _, _ = plan
    return ins[source[1]][:2] if source[0] == "pad" else spots[source[1]]


def all_trees(cells, plan):
    """Returns a dict of the used sources, in order, each with its two trees as lists of wires."""
    _, spots, _, out_sides, _ = plan
    _, _, rows, outs = cells
    paths = {source: [] for source in used_sources(cells)}
    for at, (_, sources, _, _, _) in enumerate(rows):
        for source in sources:
            if source[0] != "none" and source != ("cell", at):
                paths[source].append((spots[at], None))
    for source, side in zip(outs, out_sides):
        if source[0] != "none":
            paths[source].append((side[:2], side))
    return {source: [_tree(own_place(plan, source), ends, shape) for shape in range(2)]
            for source, ends in paths.items()}


def _tree(own, ends, shape):
    wires = {}
    for place, side in ends:
        corner = (place[0], own[1]) if shape == 0 else (own[0], place[1])
        for wire in _straight(own, corner) + _straight(corner, place):
            wires[wire] = True
        if side is not None:
            wires[side] = True
    return sorted(wires)


def _straight(here, there):
    """Returns the wires over which the places are left on the straight way from one to another one."""
    side = _side_towards(here, there)
    wires = []
    x, y = here
    while (x, y) != there:
        wires.append((x, y, side))
        x += STEPS[side][0]
        y += STEPS[side][1]
    return wires


def _side_towards(here, there):
    if here[0] != there[0]:
        return 1 if here[0] < there[0] else 3
    return 2 if here[1] < there[1] else 0
