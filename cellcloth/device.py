"""The device, which runs by the bits of a config alone (section The device)."""

from cellcloth.bits import config_of
from cellcloth.fabric import places_of
from cellcloth.wiring import driving, in_order, number_of, tapped


def start(bits):
    """Returns the state in the cycle 0."""
    return Device(config_of(bits)).first_state()


def step(bits, state, inputs):
    """Returns the list of the output bits in a cycle, and the next state."""
    return Device(config_of(bits)).cycle(state, inputs)


def run(bits, rows):
    """Returns the lists of the output bits for lists of input bits, from the cycle 0 on."""
    device = Device(config_of(bits))
    state = device.first_state()
    told = []
    for inputs in rows:
        row, state = device.cycle(state, inputs)
        told.append(row)
    return told


class Device:
    """A config that is ready to run; raises LoopError if it has a circle.

    Each value has a place in one list: first the inputs, then the outputs of the places, then a 0.
    """

    def __init__(self, config):
        _, fabric, settings, ins, outs = config
        self.settings = settings
        self.many_ins = len(ins)
        spots = {("side", *told): at for at, told in enumerate(ins)}
        for number, (x, y) in enumerate(places_of(fabric)):
            spots[("output", x, y)] = len(ins) + number
        self.tables = []
        nothing = len(ins) + len(settings)
        for part in in_order(config):
            if part[0] == "wire":
                spots[part] = spots.get(driving(config, part), nothing)
            else:
                pins = [spots.get(named, nothing) for named in tapped(config, part[1], part[2])]
                self.tables.append((number_of(config, part[1], part[2]), pins))
        wires = [("wire", *told) for told in outs]
        self.outs = [spots[wire] for wire in wires]

    def first_state(self):
        """Returns the state in the cycle 0."""
        return [first if kept == 1 else 0 for _, _, kept, first, _, _ in self.settings]

    def cycle(self, state, inputs):
        """Returns the list of the output bits in a cycle, and the next state."""
        values = [*inputs, *state, 0]
        after = [0] * len(self.settings)
        for number, pins in self.tables:
            index = sum([values[spot] << pin for pin, spot in enumerate(pins)])
            told = (self.settings[number][1] >> index) & 1
            if self.settings[number][2] == 1:
                after[number] = told
            else:
                values[self.many_ins + number] = told
        return [values[spot] for spot in self.outs], after
