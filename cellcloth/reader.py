"""Bits back to nets, and what of a config nobody needs (chapter 22)."""

from cellcloth.arith import alternatives
from cellcloth.bits import config_of
from cellcloth.fabric import empty, places_of
from cellcloth.gates import Builder
from cellcloth.wiring import driving, in_order, leaving, number_of, tapped


def net_of(bits):
    """Returns the net of bits (point 22.1)."""
    config = config_of(bits)
    _, fabric, settings, ins, outs = config
    kept = [number for number, setting in enumerate(settings) if setting[2] == 1]
    made = Builder(len(ins), [settings[number][3] for number in kept])
    literals = {("side", *told): 2 + 2 * at for at, told in enumerate(ins)}
    tables = {}
    for at, number in enumerate(kept):
        literals[("output", number % fabric[1], number // fabric[1])] = 2 + 2 * (len(ins) + at)
    for part in in_order(config):
        if part[0] == "wire":
            literals[part] = literals.get(driving(config, part), 0)
        else:
            _, x, y = part
            number = number_of(config, x, y)
            pins = [literals.get(named, 0) for named in tapped(config, x, y)]
            tables[number] = _table_literal(made, settings[number][1], pins)
            literals.setdefault(("output", x, y), tables[number])
    wires = [("wire", *told) for told in outs]
    return made.net([tables[number] for number in kept], [literals[wire] for wire in wires])


def remarks(bits):
    """Returns the list of the remarks on bits that the device runs (point 22.3)."""
    config = config_of(bits)
    in_order(config)
    _, fabric, settings, ins, _ = config
    wanted = _needed_parts(config)
    found = []
    for number, (x, y) in enumerate(places_of(fabric)):
        if ("output", x, y) not in wanted and settings[number][1:5] != empty(fabric)[1:5]:
            found.append(("idle place", number))
    for wire in leaving(fabric):
        has_code = driving(config, wire) != ("nothing",)
        if has_code and wire not in wanted:
            found.append(("idle wire", wire[1:]))
        elif wire in wanted and not has_code:
            found.append(("loose wire", wire[1:]))
    sides = [("side", *told) for told in ins]
    found.extend([("idle input", at) for at, side in enumerate(sides) if side not in wanted])
    loose = [part[1:] for part in wanted if part[0] == "side" and part not in sides]
    return found + [("loose side", name) for name in sorted(loose)]


def trimmed(config):
    """Returns a config without what the outputs do not need (point 22.4)."""
    word, fabric, settings, ins, outs = config
    wanted = _needed_parts(config)
    drives = {place: [] for place in places_of(fabric)}
    for wire in leaving(fabric):
        _, x, y, side, track = wire
        code = settings[number_of(config, x, y)][5][side * fabric[3] + track]
        drives[(x, y)].append(code if wire in wanted else 0)
    told = []
    for number, (x, y) in enumerate(places_of(fabric)):
        _, table, kept, start, taps, _ = settings[number] if ("output", x, y) in wanted else empty(fabric)
        told.append(("setting", table, kept, start, list(taps), drives[(x, y)]))
    return (word, fabric, told, list(ins), list(outs))


def _table_literal(made, table, pins):
    """Returns the literal of a table for the literals of its pins."""
    if not pins:
        return table & 1
    half = 1 << (len(pins) - 1)
    low = _table_literal(made, table & ((1 << half) - 1), pins[:-1])
    high = _table_literal(made, table >> half, pins[:-1])
    return alternatives(made, pins[-1], [high], [low])[0]


def _needed_parts(config):
    """Returns a dict of the parts that the outputs need (point 22.2)."""
    found = {}
    stack = [("wire", *told) for told in config[4]]
    while stack:
        part = stack.pop()
        if part not in found and part != ("nothing",):
            found[part] = True
            if part[0] == "wire":
                stack.append(driving(config, part))
            elif part[0] == "output":
                stack.append(("table", part[1], part[2]))
            elif part[0] == "table":
                stack.extend(tapped(config, part[1], part[2]))
    return found
