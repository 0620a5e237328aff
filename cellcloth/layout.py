"""Laying out: from a description to a tree of places without amounts (points 04.1 and 04.2)."""

from cellcloth.amounts import amount_at, amount_within
from cellcloth.errors import KindError, LimitError
from cellcloth.terms import WIDEST, settled, settled_reference

MOST_AROUND = 24
MOST_THINGS = 2000
MOST_NUMBERS = 4096
MOST_STATES = 64
MOST_MOVES = 64
DEEPEST = 64


class Place:
    """A place of a part: its things, as they were laid out."""

    def __init__(self, path, part, around):
        self.path = path
        self.part = part
        self.around = around
        self.things = []
        self.named = {}


class Thing:
    """A thing in a place; what does not belong to its kind is None."""

    def __init__(self, kind, name, short):
        self.kind = kind
        self.name = name
        self.short = short
        self.width = None
        self.start = None
        self.depth = None
        self.value = None
        self.writes = None
        self.inner = None
        self.ports = None
        self.states = None
        self.moves = None


def laid_out(description):
    """Returns the place of the circuit of a description."""
    _, parts, name, numbers = description
    layer = Layer(parts)
    counters = layer.counters_of(name, numbers, {}, "")
    place = Place("", name, 0)
    layer.lay_items(place, layer.items_of(name), counters)
    return place


class Layer:
    """Lays out the places of one description, and counts all their things."""

    def __init__(self, parts):
        self.parts = {part[1]: part for part in parts}
        self.many = 0

    def items_of(self, name):
        """Returns the items of a part that exists."""
        part = self.parts[name]
        return part[3]

    def counters_of(self, name, numbers, counters, place):
        """Returns the numbers by name of the parameters of a part, which must exist and take so many."""
        if name not in self.parts:
            raise KindError(place)
        parameters = self.parts[name][2]
        if len(parameters) != len(numbers):
            raise KindError(place)
        return {parameter: amount_at(e, counters, place) for parameter, e in zip(parameters, numbers)}

    def lay_items(self, place, items, counters):
        """Lays out items in a place."""
        for item in items:
            if item[0] == "rows":
                self.lay_rows(place, item, counters)
            elif item[0] == "if":
                chosen = item[2] if amount_at(item[1], counters, place.path) != 0 else item[3]
                self.lay_items(place, chosen, counters)
            else:
                self.lay_thing(place, item, counters)

    def lay_rows(self, place, item, counters):
        """Lays out the items of rows, once for each number."""
        _, name, first, last, items = item
        low = amount_at(first, counters, place.path)
        high = amount_at(last, counters, place.path)
        if high - low > MOST_NUMBERS:
            raise LimitError("rows")
        for number in range(low, high):
            self.lay_items(place, items, {**counters, name: number})

    def lay_thing(self, place, item, counters):
        """Lays out one thing, and what is within it."""
        thing = self.new_thing(place, item, counters)
        if item[0] == "use":
            self.lay_use(place, thing, item, counters)
        elif item[0] == "machine":
            _fill_machine(thing, item, counters)
        elif item[0] == "mem":
            _fill_memory(thing, item, counters)
        else:
            _fill_word(thing, item, counters)

    def new_thing(self, place, item, counters):
        """Returns the new thing of an item, which has just its name yet."""
        # Inputs and outputs have a bare name, all others a name with indexes.
        reference = (item[1], ()) if item[0] in ("in", "out") else item[1]
        key = settled_reference(reference, counters, place.path)
        name = _whole_name(place.path, key)
        self.many += 1
        if self.many > MOST_THINGS:
            raise LimitError("things")
        if key in place.named:
            raise KindError(name)
        thing = Thing(item[0], name, key[0])
        place.things.append(thing)
        place.named[key] = thing
        return thing

    def lay_use(self, place, thing, item, counters):
        """Lays out a place of a part, and what is in it."""
        _, _, part, numbers, ports = item
        inner_counters = self.counters_of(part, numbers, counters, thing.name)
        thing.ports = [(port, settled(x, counters, thing.name)) for port, x in ports]
        thing.inner = Place(thing.name, part, place.around + 1)
        if thing.inner.around > MOST_AROUND:
            raise LimitError("depth")
        self.lay_items(thing.inner, self.items_of(part), inner_counters)


def _whole_name(path, key):
    short, indexes = key
    name = short if path == "" else f"{path}.{short}"
    return ".".join([name] + [str(index) for index in indexes])


def _fill_word(thing, item, counters):
    thing.width = amount_within(item[2], counters, thing.name, 1, WIDEST)
    if item[0] == "reg":
        start = amount_at(item[3], counters, thing.name)
        thing.start = start % (1 << thing.width)
    if item[0] != "in":
        thing.value = settled(item[-1], counters, thing.name)


def _fill_memory(thing, item, counters):
    _, _, width, depth, writes = item
    thing.width = amount_within(width, counters, thing.name, 1, WIDEST)
    thing.depth = amount_within(depth, counters, thing.name, 1, DEEPEST)
    thing.writes = [tuple([settled(x, counters, thing.name) for x in write]) for write in writes]


def _fill_machine(thing, item, counters):
    _, _, states, moves = item
    if len(states) > MOST_STATES or len(moves) > MOST_MOVES or len(set(states)) < len(states):
        raise KindError(thing.name)
    for first, second, _ in moves:
        if first not in states or second not in states:
            raise KindError(thing.name)
    thing.states = states
    thing.width = max(1, (len(states) - 1).bit_length())
    thing.moves = [(first, second, settled(x, counters, thing.name)) for first, second, x in moves]
