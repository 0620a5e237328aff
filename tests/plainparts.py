"""The parts of a config and what they name, by the words of points 14.4 and 22.2."""

from cellcloth.fabric import beside, opposite, places_of


def named(config, x, y, code, side, track):
    """What a code names, by point 14.4."""
    if code == 0:
        return []
    if code == 1:
        return [("output", x, y)]
    place = beside(config[1], x, y, side)
    return [("wire", *place, opposite(side), track) if place else ("side", x, y, side, track)]


def code_of(config, wire):
    _, x, y, side, track = wire
    return config[2][y * config[1][1] + x][5][side * config[1][3] + track]


def directly(config, part):
    """What a part needs directly, by point 22.2."""
    tracks = config[1][3]
    if part[0] == "wire":
        return named(config, *part[1:3], code_of(config, part), code_of(config, part) - 2, part[4])
    if part[0] == "output":
        return [("table", *part[1:])]
    if part[0] == "table":
        taps = config[2][part[2] * config[1][1] + part[1]][4]
        return [other for code in taps
                for other in named(config, *part[1:], code, (code - 2) // tracks, (code - 2) % tracks)]
    return []


def wires_of(fabric):
    return [("wire", x, y, side, track) for x, y in places_of(fabric) for side in range(4) for track in range(fabric[3])]
