"""Cells on the places of a fabric, and how their length changes if they are moved (point 18.3).

A net here is the list of the cells whose places a length goes over: a cell with its users, or the users of a pad.
Nets of one cell have the length 0, and are left out. Places are told by their numbers.
"""


class Board:
    """Cells at places of a fabric of a width, given by their spots.

    `bounds` has for each net, for x and for y, its two least and its two greatest numbers, ascending. `lengths` has
    for each cell, for x and for y, the list of the lengths of its nets together, by where the cell is put; its other
    cells stay where they are.
    """

    def __init__(self, nets, spots, wide, high):
        self.nets = nets
        self.spots = list(spots)
        self.wide = wide
        self.sizes = (wide, high)
        self.cells = [None] * (wide * high)
        for cell, spot in enumerate(spots):
            self.cells[self.number(spot)] = cell
        self.nets_of = [{} for _ in spots]
        for at, net in enumerate(nets):
            for cell in net:
                self.nets_of[cell][at] = True
        self.bounds = [self._bounds_of(net) for net in nets]
        self.lengths = [self._lengths_of(cell) for cell in range(len(spots))]

    def number(self, spot):
        """Returns the number of a place."""
        return spot[1] * self.wide + spot[0]

    def spot(self, number):
        """Returns the place with a number."""
        return (number % self.wide, number // self.wide)

    def change(self, first, second):
        """Returns by how much an exchange of two places changes the length."""
        one = self.cells[first]
        other = self.cells[second]
        if one is None and other is None:
            return 0
        here = self.spot(first)
        there = self.spot(second)
        if one is None:
            return self._moving(other, there, here)
        if other is None:
            return self._moving(one, here, there)
        told = self._moving(one, here, there) + self._moving(other, there, here)
        for net in self.nets_of[one]:
            if net in self.nets_of[other]:
                # What both are in keeps its length, so what was counted for it is taken back.
                told -= self._net_moving(net, here, there) + self._net_moving(net, there, here)
        return told

    def exchange(self, first, second):
        """Exchanges what is at two places."""
        moved = []
        self.cells[first], self.cells[second] = self.cells[second], self.cells[first]
        for place in (first, second):
            cell = self.cells[place]
            if cell is not None:
                self.spots[cell] = self.spot(place)
                moved.append(cell)
        stale = {cell: True for cell in moved}
        for cell in moved:
            for net in self.nets_of[cell]:
                bounds = self._bounds_of(self.nets[net])
                if bounds != self.bounds[net]:
                    self.bounds[net] = bounds
                    stale.update({other: True for other in self.nets[net]})
        for cell in stale:
            self.lengths[cell] = self._lengths_of(cell)

    def _moving(self, cell, here, there):
        across, down = self.lengths[cell]
        return across[there[0]] - across[here[0]] + down[there[1]] - down[here[1]]

    def _net_moving(self, net, here, there):
        told = 0
        for axis in range(2):
            low, high = _rest(self.bounds[net][axis], here[axis])
            told += max(high, there[axis]) - min(low, there[axis])
            told -= max(high, here[axis]) - min(low, here[axis])
        return told

    def _bounds_of(self, net):
        found = []
        for axis in range(2):
            numbers = sorted([self.spots[cell][axis] for cell in net])
            found.append((numbers[0], numbers[1], numbers[-2], numbers[-1]))
        return found

    def _lengths_of(self, cell):
        found = []
        for axis in range(2):
            here = self.spots[cell][axis]
            rests = [_rest(self.bounds[net][axis], here) for net in self.nets_of[cell]]
            found.append([sum([max(high, at) - min(low, at) for low, high in rests])
                          for at in range(self.sizes[axis])])
        return found


def _rest(bounds, here):
    """Returns the least and the greatest number of a net without one of its cells, which is here."""
    first, second, third, fourth = bounds
    return (second if here == first else first, third if here == fourth else fourth)


def nets_of(cells):
    """Returns the nets of cells: for each cell itself and its users, and for each pad its users."""
    _, ins, rows, _ = cells
    nets = [{cell: True} for cell in range(len(rows))]
    pads = [{} for _ in range(ins)]
    for user, (_, sources, _, _, _) in enumerate(rows):
        for source in sources:
            if source[0] == "cell":
                nets[source[1]][user] = True
            elif source[0] == "pad":
                pads[source[1]][user] = True
    return [list(net) for net in nets], [list(net) for net in pads]
