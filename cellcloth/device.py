"""The device, which runs by the bits of a config alone (section The device)."""

from cellcloth.bits import config_of
from cellcloth.errors import LoopError
from cellcloth.fabric import places_of
from cellcloth.order import finished, on_circles
from cellcloth.wiring import driving, leaving, setting_of, tapped


def start(bits):
    """Returns the state in the cycle 0."""
    return Device(config_of(bits)).first_state()


def step(bits, state, inputs):
    """Returns the list of the output bits in a cycle, and the next state."""
    return Device(config_of(bits)).cycle(state, inputs)


def run(bits, rows):
    """Returns the lists of the output bits for lists of input bits, from the cycle 0 on."""
    device = Device(config_of(bits))
    state = device.first_state()
    told = []
    for inputs in rows:
        row, state = device.cycle(state, inputs)
        told.append(row)
    return told


class Device:
    """A config that is ready to run; raises LoopError if it has a circle.

    Each value has a place in one list: first the inputs, then the outputs of the places, then a 0.
    """

    def __init__(self, config):
        _, fabric, settings, ins, outs = config
        self.settings = settings
        self.many_ins = len(ins)
        uses = _uses(config)
        parts = list(uses)
        circles = on_circles(parts, uses)
        if circles:
            numbers = set([part[2] * fabric[1] + part[1] for part in circles])
            raise LoopError(sorted(numbers))
        spots = {("side", *told): at for at, told in enumerate(ins)}
        for number, (x, y) in enumerate(places_of(fabric)):
            spots[("output", x, y)] = len(ins) + number
        self.tables = []
        nothing = len(ins) + len(settings)
        for part in finished(parts, uses):
            if part[0] == "wire":
                spots[part] = spots.get(driving(config, part), nothing)
            else:
                pins = [spots.get(named, nothing) for named in tapped(config, part[1], part[2])]
                self.tables.append((part[2] * fabric[1] + part[1], pins))
        wires = [("wire", *told) for told in outs]
        self.outs = [spots[wire] for wire in wires]

    def first_state(self):
        """Returns the state in the cycle 0."""
        return [first if kept == 1 else 0 for _, _, kept, first, _, _ in self.settings]

    def cycle(self, state, inputs):
        """Returns the list of the output bits in a cycle, and the next state."""
        values = [*inputs, *state, 0]
        after = [0] * len(self.settings)
        for number, pins in self.tables:
            index = sum([values[spot] << pin for pin, spot in enumerate(pins)])
            told = (self.settings[number][1] >> index) & 1
            if self.settings[number][2] == 1:
                after[number] = told
            else:
                values[self.many_ins + number] = told
        return [values[spot] for spot in self.outs], after


def _uses(config):
    """Returns for each wire that leaves a place and each table the wires and tables on which it depends."""
    fabric = config[1]
    uses = {wire: _parts_behind(config, [driving(config, wire)]) for wire in leaving(fabric)}
    for x, y in places_of(fabric):
        uses[("table", x, y)] = _parts_behind(config, tapped(config, x, y))
    return uses


def _parts_behind(config, named):
    """Returns the wires and tables among parts, where an output that is not kept stands for its table."""
    found = []
    for part in named:
        if part[0] == "wire":
            found.append(part)
        elif part[0] == "output" and setting_of(config, part[1], part[2])[2] == 0:
            found.append(("table", part[1], part[2]))
    return found
