"""Places for cells, and border sides for inputs and outputs (section Places)."""

from cellcloth.assign import assign_right, assigned
from cellcloth.board import Board, nets_of
from cellcloth.errors import FitError
from cellcloth.fabric import borders, places_of
from cellcloth.spread import first_spots


def length(cells, spots):
    """Returns the length of spots (point 18.3)."""
    of_cells, of_pads = nets_of(cells)
    return sum([_length_of([spots[cell] for cell in net]) for net in of_cells + of_pads if net])


def placed(cells, fabric):
    """Returns a right plan for cells and a fabric."""
    kind = misfit(cells, fabric)
    if kind is not None:
        raise FitError(kind)
    board = _board(cells, fabric, first_spots(cells, fabric))
    _settle(board)
    sides = borders(fabric)
    in_numbers, of_ins = assigned(_in_costs(cells, board.spots, sides))
    ins = [sides[number] for number in in_numbers]
    out_numbers, of_outs = assigned(_out_costs(cells, board.spots, ins, sides))
    return ("plan", list(board.spots), ins, [sides[number] for number in out_numbers], [of_ins, of_outs])


def plan_right(cells, fabric, plan):
    """Returns whether a plan is right for cells that fit a fabric (point 18.5)."""
    _, spots, ins, outs, potentials = plan
    if len(spots) != len(cells[2]) or not _all_there(spots, places_of(fabric)):
        return False
    if len(ins) != cells[1] or len(outs) != len(cells[3]) or len(potentials) != 2:
        return False
    sides = borders(fabric)
    if not _all_there(ins, sides) or not _all_there(outs, sides) or any([len(pair) != 2 for pair in potentials]):
        return False
    costs = (_in_costs(cells, spots, sides), _out_costs(cells, spots, ins, sides))
    numbers = {side: number for number, side in enumerate(sides)}
    for table, chosen, pair in zip(costs, (ins, outs), potentials):
        if not assign_right(table, [numbers[side] for side in chosen], pair):
            return False
    return _is_settled(_board(cells, fabric, spots))


def misfit(cells, fabric):
    """Returns what of cells does not fit a fabric (point 18.1), or None."""
    _, ins, rows, outs = cells
    _, wide, high, _, pins = fabric
    if any([len(sources) > pins for _, sources, _, _, _ in rows]):
        return "pins"
    if len(rows) > wide * high:
        return "cells"
    many = len(borders(fabric))
    if ins > many:
        return "ins"
    return "outs" if len(outs) > many else None


def _all_there(chosen, known):
    """Returns whether what was chosen is known, each once."""
    return len(set(chosen)) == len(chosen) and all([told in known for told in chosen])


def _length_of(places):
    told = 0
    for numbers in ([x for x, _ in places], [y for _, y in places]):
        told += max(numbers) - min(numbers)
    return told


def _board(cells, fabric, spots):
    of_cells, of_pads = nets_of(cells)
    return Board([net for net in of_cells + of_pads if len(net) > 1], spots, fabric[1], fabric[2])


def _settle(board):
    """Exchanges places as long as this makes the length less."""
    many = len(board.cells)
    is_settled = False
    while not is_settled:
        is_settled = True
        for first in range(many):
            change, second = min([(board.change(first, other), other) for other in range(many)])
            if change < 0:
                board.exchange(first, second)
                is_settled = False


def _is_settled(board):
    many = len(board.cells)
    return all([board.change(first, second) >= 0 for first in range(many) for second in range(first)])


def _distance(one, other):
    return abs(one[0] - other[0]) + abs(one[1] - other[1])


def _in_costs(cells, spots, sides):
    """Returns the costs of the inputs at the border sides; without inputs there are no rows."""
    _, of_pads = nets_of(cells)
    return [[sum([_distance(side, spots[cell]) for cell in users]) for side in sides] for users in of_pads]


def _out_costs(cells, spots, ins, sides):
    """Returns the costs of the outputs at the border sides."""
    costs = []
    for source in cells[3]:
        if source[0] == "none":
            costs.append([0] * len(sides))
        else:
            place = spots[source[1]] if source[0] == "cell" else ins[source[1]]
            costs.append([_distance(side, place) for side in sides])
    return costs
