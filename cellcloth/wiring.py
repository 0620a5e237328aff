"""The parts of a config, and what they name (points 14.3, 14.4 and 16.1).

A part is told as ("wire", x, y, side, track) for a wire that leaves a place, ("side", x, y, side, track) for one that
comes in from outside, ("output", x, y), ("table", x, y), or ("nothing",).
"""

from cellcloth.errors import LoopError
from cellcloth.fabric import beside, opposite, places_of
from cellcloth.order import finished, on_circles


def number_of(config, x, y):
    """Returns the number of a place."""
    return y * config[1][1] + x


def setting_of(config, x, y):
    """Returns the setting of a place."""
    return config[2][number_of(config, x, y)]


def incoming(fabric, x, y, side, track):
    """Returns the wire that comes into a place over a side."""
    place = beside(fabric, x, y, side)
    if place is None:
        return ("side", x, y, side, track)
    return ("wire", place[0], place[1], opposite(side), track)


def tapped(config, x, y):
    """Returns the list of what the taps of a place name."""
    fabric = config[1]
    return [_named(fabric, x, y, code, (code - 2) // fabric[3], (code - 2) % fabric[3])
            for code in setting_of(config, x, y)[4]]


def driving(config, wire):
    """Returns what the code of a wire that leaves a place names."""
    _, x, y, side, track = wire
    code = setting_of(config, x, y)[5][side * config[1][3] + track]
    return _named(config[1], x, y, code, code - 2, track)


def leaving(fabric):
    """Returns the list of all wires that leave places, place by place, side by side, track by track."""
    return [("wire", x, y, side, track)
            for x, y in places_of(fabric) for side in range(4) for track in range(fabric[3])]


def in_order(config):
    """Returns the wires that leave places and the tables, each behind those on which it depends.

    Raises LoopError with the numbers of the places of those that depend on themselves.
    """
    uses = {wire: _parts_behind(config, [driving(config, wire)]) for wire in leaving(config[1])}
    for x, y in places_of(config[1]):
        uses[("table", x, y)] = _parts_behind(config, tapped(config, x, y))
    parts = list(uses)
    circles = on_circles(parts, uses)
    if circles:
        numbers = set([number_of(config, part[1], part[2]) for part in circles])
        raise LoopError(sorted(numbers))
    return finished(parts, uses)


def part_behind(config, named):
    """Returns what stands for a part that is named: for an output that is not kept its table, otherwise itself."""
    if named[0] == "output" and setting_of(config, named[1], named[2])[2] == 0:
        return ("table", named[1], named[2])
    return named


def _parts_behind(config, named):
    """Returns the wires and tables among what stands for parts that are named."""
    found = [part_behind(config, part) for part in named]
    return [part for part in found if part[0] in ("wire", "table")]


def _named(fabric, x, y, code, side, track):
    if code == 0:
        return ("nothing",)
    if code == 1:
        return ("output", x, y)
    return incoming(fabric, x, y, side, track)
