"""The plain meaning of a description, without a flat circuit (point 05.2)."""

from cellcloth.kinds import check_kinds
from cellcloth.layout import laid_out
from cellcloth.memory import word_at, words_after
from cellcloth.order import finished
from cellcloth.tree import named_thing, named_words, things_within
from cellcloth.words import calculate, cut_word, joined, remainder, result_width


class Walk:
    """A description that runs, cycle by cycle, from its first one on."""

    def __init__(self, description):
        circuit = laid_out(description)
        check_kinds(circuit)
        things = things_within(circuit)
        self.inputs = [thing.name for thing in circuit.things if thing.kind == "in"]
        self.outputs = [thing.name for thing in circuit.things if thing.kind == "out"]
        self.stateful = [(thing, place) for thing, _, place in things if thing.kind in ("reg", "mem", "machine")]
        self.wires = _ordered_wires(things)
        self.state = {thing.name: _first_state(thing) for thing, _ in self.stateful}

    def cycle(self, words):
        """Gives a row of inputs, returns the row of outputs, and goes to the next cycle."""
        # The words of registers stand among the values, so that both are read alike.
        values = dict(self.state)
        for name, word in zip(self.inputs, words):
            values[name] = word
        for thing, x, place in self.wires:
            values[thing.name] = _word_of(place, x, values)
        self.state = {thing.name: _next_state(thing, place, values) for thing, place in self.stateful}
        return [values[name] for name in self.outputs]

    def state_of(self, name):
        """Returns the word of a register, the list of the words of a memory, or the name of a machine's state."""
        told = self.state[name]
        return list(told) if isinstance(told, list) else told


def _ordered_wires(things):
    """Returns wires, inputs of places and outputs, each behind those that it names, with their expressions."""
    wires = {thing.name: (thing, x, place) for thing, x, place in things if x is not None and thing.kind != "reg"}
    uses = {}
    for name, (_, x, place) in wires.items():
        uses[name] = [other for other in named_words(place, x) if other in wires]
    return [wires[name] for name in finished(list(wires), uses)]


def _first_state(thing):
    if thing.kind == "reg":
        return thing.start
    return [0] * thing.depth if thing.kind == "mem" else thing.states[0]


def _next_state(thing, place, values):
    now = values[thing.name]
    if thing.kind == "reg":
        return _word_of(place, thing.value, values)
    if thing.kind == "mem":
        return words_after(now, [_words_of(place, write, values) for write in thing.writes])
    for first, second, test in thing.moves:
        if first == now and _word_of(place, test, values) == 1:
            return second
    return now


def _words_of(place, expressions, values):
    return [_word_of(place, x, values) for x in expressions]


def _word_of(place, x, values):
    return _pair_of(place, x, values)[1]


def _pair_of(place, x, values):
    """Returns the width and the word of an expression in a place, for a dict of what things have in this cycle."""
    kind = x[0]
    if kind == "word":
        return x[2], remainder(x[1], x[2])
    if kind == "op":
        pairs = [_pair_of(place, y, values) for y in x[2]]
        width = pairs[0][0]
        return result_width(x[1], width), calculate(x[1], width, [word for _, word in pairs])
    if kind == "cut":
        return x[3], cut_word(_word_of(place, x[1], values), x[2], x[3])
    if kind == "join":
        pairs = [_pair_of(place, y, values) for y in x[1]]
        return sum([width for width, _ in pairs]), joined(pairs)
    if kind == "choose":
        return _pair_of(place, x[2] if _word_of(place, x[1], values) == 1 else x[3], values)
    thing = named_thing(place, x)
    if kind == "read":
        return thing.width, word_at(values[thing.name], _word_of(place, x[2], values))
    if kind == "is":
        return 1, 1 if values[thing.name] == x[2] else 0
    # Only on a circle there may be no word yet, and then nothing is promised.
    return thing.width, values.get(thing.name, 0)
