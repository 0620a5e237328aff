"""First spots for cells, from which exchanges go on (section Places)."""

from cellcloth.board import nets_of
from cellcloth.fabric import places_of


def first_spots(cells, fabric):
    """Returns different places for the cells, each next to what it belongs to, from the middle on."""
    of_cells, of_pads = nets_of(cells)
    spread = Spread([net for net in of_cells + of_pads if len(net) > 1], len(cells[2]))
    _, wide, high, _, _ = fabric
    # Twice the distance from the middle, which may lie between two places.
    free = {(x, y): abs(2 * x + 1 - wide) + abs(2 * y + 1 - high) for x, y in places_of(fabric)}
    for _ in cells[2]:
        cell = spread.nearest()
        best = min([(spread.growth(cell, place), far, place) for place, far in free.items()])
        spread.put(cell, best[2])
        del free[best[2]]
    return [spread.spots[cell] for cell in range(len(cells[2]))]


class Spread:
    """Cells that get their spots one after the other.

    `boxes` has for each net of which some cells have spots the least and the greatest x and y of these.
    """

    def __init__(self, nets, many):
        self.nets = nets
        self.nets_of = [[] for _ in range(many)]
        for at, net in enumerate(nets):
            for cell in net:
                self.nets_of[cell].append(at)
        self.spots = {}
        self.boxes = {}
        # How many nets of a cell have boxes, for the cells without spots.
        self.ties = {cell: 0 for cell in range(many)}

    def nearest(self):
        """Returns the cell without a spot that has most to do with those that have one."""
        return max([(tied, len(self.nets_of[cell]), -cell) for cell, tied in self.ties.items()])[2] * -1

    def growth(self, cell, place):
        """Returns by how much the lengths of nets grow if a cell gets a place."""
        x, y = place
        told = 0
        for net in self.nets_of[cell]:
            if net in self.boxes:
                left, right, top, bottom = self.boxes[net]
                told += max(0, left - x, x - right) + max(0, top - y, y - bottom)
        return told

    def put(self, cell, place):
        """Gives a cell a place."""
        x, y = place
        self.spots[cell] = place
        del self.ties[cell]
        for net in self.nets_of[cell]:
            left, right, top, bottom = self.boxes.get(net, (x, x, y, y))
            if net not in self.boxes:
                for other in self.nets[net]:
                    if other in self.ties:
                        self.ties[other] += 1
            self.boxes[net] = (min(left, x), max(right, x), min(top, y), max(bottom, y))
