"""Bits that are changed while the device runs (chapter 24)."""

from cellcloth.bits import config_of
from cellcloth.device import Device
from cellcloth.fabric import places_of
from cellcloth.wiring import driving, leaving, number_of, setting_of, tapped


def changed_places(first, second):
    """Returns the ascending list of the numbers of the places whose settings differ."""
    return [number for number, (one, other) in enumerate(zip(first[2], second[2])) if one != other]


def undisturbed(first, second):
    """Returns what is not disturbed by a change: outputs, places and wires (point 24.3)."""
    unsteady = _unsteady_parts(first, second)
    outs = [at for at in _equal_outs(first, second) if ("wire", *first[4][at]) not in unsteady]
    places = [number for number, (x, y) in enumerate(places_of(first[1])) if ("output", x, y) not in unsteady]
    return outs, places, [wire[1:] for wire in leaving(first[1]) if wire not in unsteady]


def undisturbed_right(first, second, told):
    """Returns whether what is told of a change is right (point 24.4)."""
    outs, numbers, names = told
    places = places_of(first[1])
    wires = {wire: True for wire in leaving(first[1])}
    named = {}
    for number in numbers:
        if number not in range(len(places)):
            return False
        x, y = places[number]
        named[("output", x, y)] = True
        named[("table", x, y)] = True
    for name in names:
        wire = ("wire", *name)
        if wire not in wires:
            return False
        named[wire] = True
    equal_outs = _equal_outs(first, second)
    if any([at not in equal_outs or ("wire", *first[4][at]) not in named for at in outs]):
        return False
    return all([_is_same(first, second, part) and _rests_on(first, second, part, named) for part in named])


def switched(first, second, state):
    """Returns the state behind the change (point 24.1)."""
    told = []
    for one, other, bit in zip(first[2], second[2], state):
        if one[2] == 1 and one[1:5] == other[1:5]:
            told.append(bit)
        else:
            told.append(other[3] if other[2] == 1 else 0)
    return told


def changed_run(bits, others, rows, count):
    """Returns the rows of outputs of bits that are changed to others behind so many cycles."""
    first = config_of(bits)
    second = config_of(others)
    device = Device(first)
    changed_device = Device(second)
    state = device.first_state()
    told = []
    for at, inputs in enumerate(rows):
        if at == count:
            state = switched(first, second, state)
            device = changed_device
        row, state = device.cycle(state, inputs)
        told.append(row)
    return told


def _equal_outs(first, second):
    """Returns the indexes of the outputs that have the same wires in both configs."""
    return [at for at, (one, other) in enumerate(zip(first[4], second[4])) if one == other]


def _is_same(first, second, part):
    """Returns whether a part is the same in both configs (point 24.2)."""
    if part[0] == "nothing":
        return True
    if part[0] == "side":
        return _input_at(first, part) == _input_at(second, part)
    if part[0] == "wire":
        return _code_of(first, part) == _code_of(second, part)
    return setting_of(first, part[1], part[2])[1:5] == setting_of(second, part[1], part[2])[1:5]


def _input_at(config, part):
    """Returns the index of the input that a wire from outside is, or None."""
    return config[3].index(part[1:]) if part[1:] in config[3] else None


def _code_of(config, wire):
    _, x, y, side, track = wire
    return config[2][number_of(config, x, y)][5][side * config[1][3] + track]


def _behind(config, part):
    """Returns the parts on which a part depends directly."""
    if part[0] == "wire":
        return [driving(config, part)]
    if part[0] == "output":
        return [("table", part[1], part[2])]
    return tapped(config, part[1], part[2]) if part[0] == "table" else []


def _rests_on(first, second, part, named):
    """Returns whether a part depends directly on named parts and the same wires from outside alone."""
    for other in _behind(first, part):
        if other not in named and (other[0] not in ("side", "nothing") or not _is_same(first, second, other)):
            return False
    return True


def _unsteady_parts(first, second):
    """Returns a dict of the parts that are not the same in both configs, or depend on such parts."""
    parts = leaving(first[1])
    for x, y in places_of(first[1]):
        parts.extend([("output", x, y), ("table", x, y)])
    users = {}
    for part in parts:
        for other in _behind(first, part):
            users.setdefault(other, []).append(part)
    stack = [part for part in [*parts, *users] if not _is_same(first, second, part)]
    found = {}
    while stack:
        part = stack.pop()
        if part not in found:
            found[part] = True
            stack.extend(users.get(part, []))
    return found
