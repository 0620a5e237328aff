"""Cells and plans of many forms, made from a seed."""

from random import Random

from cellcloth.fabric import borders, places_of


def made_cells(seed, cells, ins, outs, pins, circles=True):
    """Cells without faults; without circles if this is asked for."""
    random = Random(seed)
    rows = []
    kept_cells = [random.randint(0, 1) for _ in range(cells)]
    for j, kept in enumerate(kept_cells):
        sources = []
        for _ in range(random.randint(0, pins)):
            # Without circles, a cell has only cells before it, and kept ones, as sources.
            choice = [k for k in range(cells) if circles or k < j or kept_cells[k]]
            sources.append(source_of(random, ins, choice))
        start = random.randint(0, 1) if kept else 0
        rows.append(("cell", sources, random.randrange(2 ** 2 ** len(sources)), kept, start))
    return ("cells", ins, rows, [source_of(random, ins, list(range(cells))) for _ in range(outs)])


def source_of(random, ins, choice):
    form = random.random()
    if form < 0.3 and ins:
        return ("pad", random.randrange(ins))
    if form > 0.9 or not choice:
        return ("none",)
    return ("cell", random.choice(choice))


def any_plan(seed, cells, fabric):
    """A plan that need not be right."""
    random = Random(seed)
    sides = borders(fabric)
    return ("plan", random.sample(places_of(fabric), len(cells[2])), random.sample(sides, cells[1]),
            random.sample(sides, len(cells[3])), [])


def cases(many, most=4, circles=True):
    """Pairs of cells and a fabric that they fit."""
    for seed in range(many):
        random = Random(seed)
        fabric = ("fabric", random.randint(1, most), random.randint(1, most), random.randint(1, 8), random.randint(1, 4))
        sides = len(borders(fabric))
        places = fabric[1] * fabric[2]
        yield made_cells(seed, random.choice((places, random.randint(0, places))), random.randint(0, min(sides, 6)),
                         random.randint(0, min(sides, 6)), fabric[4], circles), fabric
