"""Elaborating: from a description to its flat circuit (points 04.4 and 04.5)."""

from cellcloth.errors import LimitError, LoopError
from cellcloth.kinds import check_kinds
from cellcloth.layout import laid_out
from cellcloth.order import finished, on_circles
from cellcloth.tree import named_thing, named_words, things_within
from cellcloth.words import remainder, result_width

MOST_BITS = 64


def flat(description):
    """Returns the flat circuit of a description."""
    circuit = laid_out(description)
    check_kinds(circuit)
    things = things_within(circuit)
    inputs = [(thing.name, thing.width) for thing in circuit.things if thing.kind == "in"]
    outputs = [(thing.name, thing.width, _flat_expression(circuit, thing.value))
               for thing in circuit.things if thing.kind == "out"]
    registers = [_flat_register(thing, place) for thing, _, place in things if thing.kind in ("reg", "machine")]
    memories = [_flat_memory(thing, place) for thing, _, place in things if thing.kind == "mem"]
    wires = _flat_wires(things)
    if sum([width for _, width in inputs]) > MOST_BITS:
        raise LimitError("inputs")
    if _state_bits(registers, memories) > MOST_BITS:
        raise LimitError("state")
    if sum([width for _, width, _ in outputs]) > MOST_BITS:
        raise LimitError("outputs")
    return ("flat", inputs, registers, memories, wires, outputs)


def _state_bits(registers, memories):
    in_registers = sum([width for _, width, _, _ in registers])
    return in_registers + sum([width * depth for _, width, depth, _ in memories])


def _flat_register(thing, place):
    if thing.kind == "reg":
        return (thing.name, thing.width, thing.start, _flat_expression(place, thing.value))
    told = ("name", thing.width, thing.name)
    # The first move that fits counts, so it has to stand around all others.
    for first, second, test in reversed(thing.moves):
        goes = ("op", 1, "and", [_in_state(thing, first), _flat_expression(place, test)])
        told = ("choose", thing.width, goes, _state_number(thing, second), told)
    return (thing.name, thing.width, 0, told)


def _flat_memory(thing, place):
    writes = [tuple([_flat_expression(place, x) for x in write]) for write in thing.writes]
    return (thing.name, thing.width, thing.depth, writes)


def _flat_wires(things):
    """Returns the wires in the order in which they are finished; raises LoopError if some lie on circles."""
    wires = {thing.name: (thing, x, place) for thing, x, place in things if _is_wire(thing)}
    uses = {}
    for name, (_, x, place) in wires.items():
        uses[name] = [other for other in named_words(place, x) if other in wires]
    names = list(wires)
    places = on_circles(names, uses)
    if places:
        raise LoopError(places)
    found = []
    for name in finished(names, uses):
        thing, x, place = wires[name]
        found.append((name, thing.width, _flat_expression(place, x)))
    return found


def _is_wire(thing):
    """Returns whether a thing is a wire, or an input or an output of a place that is not the circuit."""
    # Only in the circuit itself, whose path is empty, the whole name is the short one.
    return thing.kind == "let" or thing.kind in ("in", "out") and thing.name != thing.short


def _flat_expression(place, x):
    kind = x[0]
    if kind == "word":
        return ("const", x[2], remainder(x[1], x[2]))
    if kind == "op":
        words = [_flat_expression(place, y) for y in x[2]]
        return ("op", result_width(x[1], words[0][1]), x[1], words)
    if kind == "cut":
        return ("cut", x[3], _flat_expression(place, x[1]), x[2])
    if kind == "join":
        words = [_flat_expression(place, y) for y in x[1]]
        return ("join", sum([word[1] for word in words]), words)
    if kind == "choose":
        test, yes, no = [_flat_expression(place, y) for y in x[1:]]
        return ("choose", yes[1], test, yes, no)
    thing = named_thing(place, x)
    if kind == "is":
        return _in_state(thing, x[2])
    if kind == "read":
        return ("read", thing.width, thing.name, _flat_expression(place, x[2]))
    return ("name", thing.width, thing.name)


def _in_state(thing, state):
    """Returns the expression that is 1 if a machine is in a state."""
    return ("op", 1, "same", [("name", thing.width, thing.name), _state_number(thing, state)])


def _state_number(thing, state):
    return ("const", thing.width, thing.states.index(state))
