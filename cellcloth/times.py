"""The times of wires and tables, and the period (section Times)."""

from cellcloth.fabric import places_of
from cellcloth.wiring import driving, in_order, leaving, number_of, part_behind, tapped


def times(config, delays):
    """Returns the period of a config for delays, and a right paper."""
    known = {}
    for part in in_order(config):
        known[part] = _least_time(config, delays, known, part)
    period = max([0] + [known[part] for part in _ends(config)])
    tables = [known[("table", x, y)] for x, y in places_of(config[1])]
    wires = [[] for _ in tables]
    for wire in leaving(config[1]):
        wires[number_of(config, wire[1], wire[2])].append(known[wire])
    return period, ("times", tables, wires, _longest_path(config, delays, known, period))


def times_right(config, delays, period, paper):
    """Returns whether a paper is right for a period (point 20.3)."""
    _, tables, wires, path = paper
    places = places_of(config[1])
    if len(tables) != len(places) or [len(row) for row in wires] != [4 * config[1][3]] * len(places):
        return False
    numbers = [number for row in wires for number in row]
    known = {wire: number for wire, number in zip(leaving(config[1]), numbers)}
    for (x, y), told in zip(places, tables):
        known[("table", x, y)] = told
    if any([told < 0 for told in known.values()]):
        return False
    if any([told < _least_time(config, delays, known, part) for part, told in known.items()]):
        return False
    if any([known[part] > period for part in _ends(config)]):
        return False
    return period == 0 if not path else _path_right(config, delays, period, path, known)


def _ends(config):
    """Returns the tables of places with kept bits and the wires of the outputs."""
    _, fabric, settings, _, outs = config
    tables = [("table", x, y) for (x, y), setting in zip(places_of(fabric), settings) if setting[2] == 1]
    return tables + [("wire", *told) for told in outs]


def _behind(config, part):
    """Returns the list of what a table or a wire names, where the output of a place stands for its table."""
    named = tapped(config, part[1], part[2]) if part[0] == "table" else [driving(config, part)]
    return [part_behind(config, other) for other in named]


def _time_behind(delays, known, part):
    """Returns the time of what is named; an output that is named here is a kept bit."""
    if part[0] == "output":
        return delays[3]
    return known.get(part, 0)


def _least_time(config, delays, known, part):
    """Returns the time of a table or a wire if the known times are those of the others (point 20.1)."""
    behind = _behind(config, part)
    if behind == [("nothing",)] and part[0] == "wire":
        return 0
    return _delay(delays, part) + max([0] + [_time_behind(delays, known, other) for other in behind])


def _delay(delays, part):
    return delays[1] if part[0] == "table" else delays[2]


def _longest_path(config, delays, known, period):
    """Returns the tables and wires on a way that takes the whole period."""
    path = []
    rest = period
    # Behind the end of the way stands what the period is measured at.
    choice = _ends(config)
    while rest > 0:
        late = [part for part in choice if _time_behind(delays, known, part) == rest]
        if any([part[0] == "output" for part in late]):
            break
        path.append(late[0])
        rest -= _delay(delays, late[0])
        choice = _behind(config, late[0])
    return path[::-1]


def _path_right(config, delays, period, path, known):
    if any([part not in known or _behind(config, part) == [("nothing",)] and part[0] == "wire" for part in path]):
        return False
    if path[-1] not in _ends(config):
        return False
    for before, part in zip(path, path[1:]):
        if before not in _behind(config, part):
            return False
    starts_late = any([part[0] == "output" for part in _behind(config, path[0])])
    return period == sum([_delay(delays, part) for part in path]) + (delays[3] if starts_late else 0)
