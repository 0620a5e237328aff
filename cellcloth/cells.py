"""Cells: their faults and circles, their cycles, and the cells of a net (section Cells)."""

from cellcloth.errors import KindError, LoopError
from cellcloth.nets import base_of
from cellcloth.order import finished, on_circles

MOST_SOURCES = 4


def check_cells(cells):
    """Raises KindError with the first fault of cells, or LoopError with the cells that lie on circles."""
    _, _, rows, outs = cells
    for j, cell in enumerate(rows):
        if not _cell_right(cells, cell):
            raise KindError(f"cell {j}")
    for k, source in enumerate(outs):
        if not _is_there(cells, source):
            raise KindError(f"out {k}")
    places = on_circles(list(range(len(rows))), _uses(rows))
    if places:
        raise LoopError(places)


def step_cells(cells, state, bits):
    """Returns the list of the bits that are told in a cycle, and the next state."""
    return _stepped(cells, _order(cells), state, bits)


def run_cells(cells, rows):
    """Returns the lists of the bits that are told for lists of input bits, from the starts on."""
    order = _order(cells)
    state = [start for _, _, _, _, start in cells[2]]
    told = []
    for bits in rows:
        row, state = _stepped(cells, order, state, bits)
        told.append(row)
    return told


def packed(net, tables):
    """Returns the cells of a net and a covering of it (point 13.3)."""
    _, ins, starts, _, nexts, outs = net
    by_gate = {gate: (cut, bits) for gate, cut, bits in tables}
    merged = _merged_flops(net, tables)
    alone = [gate for gate, _, _ in tables if gate not in merged]
    became = {1 + at: ("pad", at) for at in range(ins)}
    for at in range(len(starts)):
        became[1 + ins + at] = ("cell", at)
    for at, gate in enumerate(alone):
        became[gate] = ("cell", len(starts) + at)
    rows = []
    for start, literal in zip(starts, nexts):
        node = literal >> 1
        if node in merged:
            cut, bits = by_gate[node]
            sources = [became[below] for below in cut]
            rows.append(("cell", sources, _turned(bits, len(cut)) if literal & 1 else bits, 1, start))
        else:
            rows.append(_copying(became, literal, 1, start))
    for gate in alone:
        cut, bits = by_gate[gate]
        rows.append(("cell", [became[below] for below in cut], bits, 0, 0))
    told = {literal: became[literal >> 1] for literal in outs if literal & 1 == 0 and literal != 0}
    told[0] = ("none",)
    for literal in outs:
        if literal not in told:
            told[literal] = ("cell", len(rows))
            rows.append(_copying(became, literal, 0, 0))
    return ("cells", ins, rows, [told[literal] for literal in outs])


def _cell_right(cells, cell):
    _, sources, table, kept, start = cell
    if len(sources) > MOST_SOURCES or any([not _is_there(cells, source) for source in sources]):
        return False
    if not 0 <= table < 1 << (1 << len(sources)):
        return False
    return kept in (0, 1) and start in (0, 1) and (kept == 1 or start == 0)


def _is_there(cells, source):
    if source[0] == "none":
        return True
    many = cells[1] if source[0] == "pad" else len(cells[2])
    return 0 <= source[1] < many


def _uses(rows):
    """Returns for each cell the cells that are not kept among its sources."""
    uses = {}
    for j, (_, sources, _, _, _) in enumerate(rows):
        uses[j] = [source[1] for source in sources if source[0] == "cell" and rows[source[1]][3] == 0]
    return uses


def _order(cells):
    """Returns the cells that are not kept, each behind those that it has as sources."""
    rows = cells[2]
    return finished([j for j, cell in enumerate(rows) if cell[3] == 0], _uses(rows))


def _stepped(cells, order, state, bits):
    _, _, rows, outs = cells
    outputs = list(state)
    for j in order:
        outputs[j] = _table_bit(rows[j], outputs, bits)
    after = [_table_bit(cell, outputs, bits) if cell[3] == 1 else 0 for cell in rows]
    return [_bit_of(source, outputs, bits) for source in outs], after


def _table_bit(cell, outputs, bits):
    number = sum([_bit_of(source, outputs, bits) << at for at, source in enumerate(cell[1])])
    return (cell[2] >> number) & 1


def _bit_of(source, outputs, bits):
    if source[0] == "none":
        return 0
    return bits[source[1]] if source[0] == "pad" else outputs[source[1]]


def _merged_flops(net, tables):
    """Returns a dict of the gates whose tables are put into the kept cell of a flop."""
    _, _, _, _, nexts, outs = net
    times = {}
    for literal in nexts:
        times[literal >> 1] = times.get(literal >> 1, 0) + 1
    used = {node: True for _, cut, _ in tables for node in cut}
    for literal in outs:
        used[literal >> 1] = True
    return {node: True for node, many in times.items() if node >= base_of(net) and many == 1 and node not in used}


def _turned(bits, many):
    return bits ^ ((1 << (1 << many)) - 1)


def _copying(became, literal, kept, start):
    """Returns the cell that tells a literal."""
    if literal < 2:
        return ("cell", [], literal, kept, start)
    return ("cell", [became[literal >> 1]], 1 if literal & 1 else 2, kept, start)
