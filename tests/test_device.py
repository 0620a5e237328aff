"""Section The device (points 16.1 to 16.4) and device.py of the interface."""

import unittest
from random import Random

from calling import called, with_item
from cellcloth.bits import bits_of, config_of
from cellcloth.device import run, start, step
from cellcloth.errors import BitsError, LoopError
from cellcloth.fabric import beside, borders, empty
from configmaking import made_config


class Plain:
    """Points 14.3, 14.4 and 16.1 to 16.3, value by value."""

    def __init__(self, config, state, inputs):
        self.config = config
        self.state = state
        self.inputs = inputs
        self.known = {}

    def named(self, x, y, code, side, track):
        """What a code names; None for nothing."""
        if code == 0:
            return None
        if code == 1:
            return ("output", x, y)
        place = beside(self.config[1], x, y, side)
        if place is None:
            return ("side", x, y, side, track)
        return ("wire", *place, (side + 2) % 4, track)

    def setting(self, x, y):
        return self.config[2][y * self.config[1][1] + x]

    def directly(self, part):
        """What a part depends on directly."""
        tracks = self.config[1][3]
        if part[0] == "wire":
            _, x, y, side, track = part
            code = self.setting(x, y)[5][side * tracks + track]
            return [self.named(x, y, code, code - 2, track)]
        if part[0] == "table":
            _, x, y = part
            return [self.named(x, y, code, (code - 2) // tracks, (code - 2) % tracks) for code in self.setting(x, y)[4]]
        if part[0] == "output" and self.setting(*part[1:])[2] == 0:
            return [("table", *part[1:])]
        return []

    def value(self, part):
        if part is None:
            return 0
        if part not in self.known:
            self.known[part] = self.worked_out(part)
        return self.known[part]

    def worked_out(self, part):
        if part[0] == "side":
            ends = self.config[3]
            return self.inputs[ends.index(part[1:])] if part[1:] in ends else 0
        if part[0] == "output" and self.setting(*part[1:])[2] == 1:
            return self.state[part[2] * self.config[1][1] + part[1]]
        below = [self.value(other) for other in self.directly(part)]
        if part[0] == "table":
            return self.setting(*part[1:])[1] >> sum(2 ** pin for pin, bit in enumerate(below) if bit) & 1
        return below[0]

    def parts(self):
        _, wide, high, tracks, _ = self.config[1]
        for y in range(high):
            for x in range(wide):
                yield ("table", x, y)
                for side in range(4):
                    for track in range(tracks):
                        yield ("wire", x, y, side, track)

    def circle(self):
        """The numbers of the places of all wires and tables that depend on themselves."""
        found = set()
        for part in self.parts():
            seen = set()
            todo = [other for other in self.directly(part) if other]
            while todo:
                other = todo.pop()
                if other not in seen:
                    seen.add(other)
                    todo += [below for below in self.directly(other) if below]
            if part in seen:
                found.add(part[2] * self.config[1][1] + part[1])
        return sorted(found)


def plain_step(config, state, inputs):
    plain = Plain(config, state, inputs)
    wide = config[1][1]
    told = [plain.value(("wire", *end)) for end in config[4]]
    after = [plain.value(("table", at % wide, at // wide)) if setting[2] == 1 else 0
             for at, setting in enumerate(config[2])]
    return told, after


def plain_start(config):
    return [setting[3] if setting[2] == 1 else 0 for setting in config[2]]


def circle_of(config):
    """The places of the LoopError of all functions, or None."""
    bits = bits_of(config)
    told = []
    state = [0] * len(config[2])
    for call in ((start, bits), (step, bits, state, [0] * len(config[3])), (run, bits, []),
                 (run, bits, [[0] * len(config[3])])):
        try:
            call[0](*call[1:])
            told.append(None)
        except LoopError as error:
            told.append(error.places)
    assert told.count(told[0]) == 4
    return told[0]


def one_place(tracks, pins, ins=(), outs=(), **parts):
    fabric = ("fabric", 1, 1, tracks, pins)
    _, table, kept, first, taps, drives = empty(fabric)
    setting = ("setting", parts.get("table", table), parts.get("kept", kept), parts.get("start", first),
               parts.get("taps", taps), parts.get("drives", drives))
    return ("config", fabric, [setting], list(ins), list(outs))


class RunTest(unittest.TestCase):
    def test_example(self):
        fabric = ("fabric", 1, 1, 1, 1)
        setting = ("setting", 1, 1, 0, [1], [0, 1, 0, 4])
        bits = bits_of(("config", fabric, [setting], [(0, 0, 2, 0)], [(0, 0, 1, 0), (0, 0, 3, 0)]))
        self.assertEqual(called(self, start, bits), [0])
        self.assertEqual(called(self, run, bits, [[1], [1], [0]]), [[0, 1], [1, 1], [0, 0]])

    def check_run(self, config, seed, many=8):
        bits = bits_of(config)
        random = Random(seed)
        rows = [[random.randint(0, 1) for _ in config[3]] for _ in range(many)]
        state = plain_start(config)
        self.assertEqual(called(self, start, bits), state)
        told = []
        for inputs in rows:
            row, after = plain_step(config, state, inputs)
            self.assertEqual(called(self, step, bits, state, inputs), (row, after))
            # What a state has for places that are not kept is not heeded.
            other = [bit if setting[2] == 1 else random.randint(0, 1) for bit, setting in zip(state, config[2])]
            self.assertEqual(step(bits, other, inputs), (row, after))
            told.append(row)
            state = after
        self.assertEqual(called(self, run, bits, rows), told)

    def test_against_the_definition(self):
        ran = looped = 0
        for seed in range(500):
            drives = Random(seed).choice(((0, 1, 2, 3, 4, 5), (0, 1, 1, 1, 4), (0, 0, 0, 0, 1, 3, 5), (0, 1)))
            config = made_config(seed, 3, 3, 3, drives, Random(seed).choice((0.2, 0.6, 0.9, 1)))
            circle = Plain(config, None, None).circle()
            self.assertEqual(circle_of(config), circle or None)
            if circle:
                looped += 1
            else:
                ran += 1
                self.check_run(config, seed)
        self.assertGreater(min(ran, looped), 100)

    def test_each_code_of_a_tap(self):
        for tracks in (1, 2, 8):
            ends = [(0, 0, side, track) for side in range(4) for track in range(tracks)]
            for code in range(4 * tracks + 2):
                for pins in (1, 3):
                    for pin in range(pins):
                        # The table tells its pin, kept for the code of the place itself.
                        config = one_place(tracks, pins, ends, [(0, 0, 0, 0)], table=sum(
                            1 << n for n in range(2 ** pins) if n >> pin & 1), kept=1, start=1,
                            taps=[code if k == pin else 0 for k in range(pins)], drives=[1] + [0] * (4 * tracks - 1))
                        for at in range(len(ends)):
                            inputs = [1 if k == at else 0 for k in range(len(ends))]
                            after = 1 if code == 1 or code == at + 2 else 0
                            self.assertEqual(step(bits_of(config), [1], inputs), ([1], [after]))

    def test_each_code_of_a_drive(self):
        """Also the side over which the wire leaves; inputs and outputs on the same sides."""
        ends = [(0, 0, side, track) for side in range(4) for track in range(2)]
        for side in range(4):
            for track in range(2):
                for code in range(6):
                    drives = with_item([0] * 8, 2 * side + track, code)
                    config = one_place(2, 1, ends, ends, table=3, kept=0, drives=drives)
                    for at, (_, _, other, on) in enumerate(ends):
                        inputs = [1 if k == at else 0 for k in range(8)]
                        bit = code == 1 or code == 2 + other and on == track
                        self.assertEqual(run(bits_of(config), [inputs]),
                                         [[int(bit and k == 2 * side + track) for k in range(8)]])

    def test_tables(self):
        random = Random(2)
        ends = [(0, 0, side, 0) for side in range(4)]
        for pins in range(1, 5):
            for _ in range(8):
                table = random.randrange(2 ** 2 ** pins)
                config = one_place(1, pins, ends, [(0, 0, 3, 0)], table=table, taps=[2, 3, 4, 5][:pins], drives=[0, 0, 0, 1])
                for number in range(16):
                    inputs = [number >> at & 1 for at in range(4)]
                    self.assertEqual(run(bits_of(config), [inputs]), [[table >> number % 2 ** pins & 1]])

    def test_a_wire_back_over_its_side(self):
        """Over the side 1 of the place 0 to the place 1 and back."""
        fabric = ("fabric", 2, 1, 1, 1)
        left = ("setting", 0, 0, 0, [0], [3, 2, 0, 0])
        right = ("setting", 0, 0, 0, [0], [0, 0, 0, 5])
        config = ("config", fabric, [left, right], [(0, 0, 0, 0)], [(0, 0, 0, 0)])
        self.assertEqual(run(bits_of(config), [[1], [0], [1]]), [[1], [0], [1]])

    def test_one_name_for_an_input_and_an_output(self):
        config = one_place(1, 1, [(0, 0, 0, 0), (0, 0, 1, 0)], [(0, 0, 0, 0)], drives=[3, 0, 0, 0])
        self.assertEqual(run(bits_of(config), [[1, 0], [0, 1]]), [[0], [1]])

    def test_sides_without_an_input(self):
        config = one_place(1, 1, [(0, 0, 3, 0)], [(0, 0, 0, 0)], table=2, taps=[2], drives=[4, 0, 0, 0])
        self.assertEqual(run(bits_of(config), [[1]]), [[0]])

    def test_inputs_that_nobody_needs_and_two_outputs_of_one_place(self):
        config = one_place(1, 1, [(0, 0, 2, 0)], [(0, 0, 0, 0), (0, 0, 1, 0)], table=1, drives=[1, 1, 0, 0])
        self.assertEqual(run(bits_of(config), [[0], [1]]), [[1, 1], [1, 1]])

    def test_kept_and_not_kept(self):
        for kept, first, expected in ((0, 0, [[1], [1]]), (0, 1, [[1], [1]]), (1, 0, [[0], [1]]), (1, 1, [[1], [1]])):
            config = one_place(1, 1, [], [(0, 0, 0, 0)], table=3, kept=kept, start=first, drives=[1, 0, 0, 0])
            self.assertEqual(start(bits_of(config)), [first if kept else 0])
            self.assertEqual(run(bits_of(config), [[], []]), expected)
            self.assertEqual(step(bits_of(config), [0], []), ([expected[0][0] if not kept else 0], [kept]))

    def test_all_change_at_once(self):
        """Two kept places that tell one another their bits."""
        fabric = ("fabric", 2, 1, 1, 1)
        left = ("setting", 2, 1, 1, [3], [1, 1, 0, 0])
        right = ("setting", 2, 1, 0, [5], [1, 0, 0, 1])
        config = ("config", fabric, [left, right], [], [(0, 0, 0, 0), (1, 0, 0, 0)])
        self.assertEqual(run(bits_of(config), [[]] * 3), [[1, 0], [0, 1], [1, 0]])

    def test_nothing(self):
        config = one_place(1, 1)
        self.assertEqual(run(bits_of(config), [[], []]), [[], []])
        self.assertEqual(run(bits_of(config), []), [])
        self.assertEqual(step(bits_of(config), [1], []), ([], [0]))


class CircleTest(unittest.TestCase):
    def test_wires_alone(self):
        """The places 0 and 1 lead wires to one another; the place 2 leads one of them on."""
        fabric = ("fabric", 3, 1, 1, 1)
        row = [("setting", 0, 1, 0, [0], [0, 3, 0, 0]), ("setting", 0, 1, 0, [0], [0, 0, 0, 5]), empty(fabric)]
        self.assertEqual(circle_of(("config", fabric, row, [], [])), [0, 1])
        row[1] = ("setting", 0, 1, 0, [0], [0, 5, 0, 5])
        row[2] = ("setting", 0, 0, 0, [5], [5, 0, 0, 0])
        self.assertEqual(circle_of(("config", fabric, row, [], [(2, 0, 0, 0)])), [0, 1])
        row[1] = ("setting", 0, 1, 0, [0], [0, 5, 0, 3])
        self.assertIsNone(circle_of(("config", fabric, row, [], [])))

    def test_a_table_that_taps_itself(self):
        # Also if it does not heed the pin, and if nobody needs it.
        for table in (0, 1, 2, 3):
            self.assertEqual(circle_of(one_place(1, 1, table=table, taps=[1])), [0])
            self.assertIsNone(circle_of(one_place(1, 1, table=table, taps=[1], kept=1)))
        self.assertIsNone(circle_of(one_place(1, 1, taps=[0], drives=[1, 1, 1, 1])))

    def test_wires_over_border_sides_lead_nowhere(self):
        self.assertIsNone(circle_of(one_place(1, 1, [(0, 0, 0, 0)], [(0, 0, 0, 0)], drives=[2, 3, 4, 5])))

    def test_tables_and_wires(self):
        """A table taps a wire that comes back from it."""
        fabric = ("fabric", 2, 1, 1, 1)
        first = ("setting", 1, 0, 0, [3], [0, 1, 0, 0])
        second = ("setting", 0, 0, 0, [0], [0, 0, 0, 5])
        self.assertEqual(circle_of(("config", fabric, [first, second], [], [])), [0, 1])
        kept = with_item(first, 2, 1)
        self.assertIsNone(circle_of(("config", fabric, [kept, second], [], [])))
        # The other place tells what its table taps.
        second = ("setting", 0, 0, 0, [5], [0, 0, 0, 1])
        self.assertEqual(circle_of(("config", fabric, [first, second], [], [])), [0, 1])
        self.assertIsNone(circle_of(("config", fabric, [first, with_item(second, 2, 1)], [], [])))

    def test_just_the_places_on_it(self):
        """A ring of four places in a fabric of 3 by 3; the others tap it, or lead into it."""
        fabric = ("fabric", 3, 3, 1, 1)
        rows = [empty(fabric) for _ in range(9)]
        rows[0] = ("setting", 0, 1, 0, [0], [0, 4, 0, 0])
        rows[1] = ("setting", 0, 1, 0, [0], [0, 5, 5, 0])
        rows[4] = ("setting", 0, 1, 0, [0], [0, 0, 0, 2])
        rows[3] = ("setting", 0, 1, 0, [0], [3, 0, 3, 0])
        rows[2] = ("setting", 1, 0, 0, [5], [1, 0, 0, 0])
        rows[6] = ("setting", 1, 0, 0, [2], [0, 1, 0, 0])
        rows[8] = ("setting", 1, 0, 0, [0], [1, 0, 0, 1])
        self.assertEqual(circle_of(("config", fabric, rows, [], [])), [0, 1, 3, 4])

    def test_several_circles(self):
        fabric = ("fabric", 4, 1, 1, 1)
        itself = ("setting", 1, 0, 0, [1], [0, 1, 0, 0])
        on = ("setting", 1, 0, 0, [5], [0, 1, 0, 0])
        self.assertEqual(circle_of(("config", fabric, [itself, on, on, itself], [], [])), [0, 3])


class ErrorsTest(unittest.TestCase):
    def test_bits_that_are_no_config(self):
        bits = bits_of(one_place(1, 1, table=1, taps=[1]))
        for wrong in ([], bits[:20], bits[:-1], bits + [0], with_item(bits, 30, 1 - bits[30])):
            places = []
            for call in ((config_of, wrong), (start, wrong), (step, wrong, [0], []), (run, wrong, []),
                         (run, wrong, [[]])):
                with self.assertRaises(BitsError) as caught:
                    call[0](*call[1:])
                places.append(caught.exception.at)
            self.assertEqual(len(set(places)), 1)
        # The error of the bits comes ahead of the circle.
        with self.assertRaises(LoopError):
            run(bits, [])


class LargeTest(unittest.TestCase):
    def test_one_long_way(self):
        """From the place 0 through all places, row by row, forth and back, on each track."""
        fabric = ("fabric", 12, 12, 8, 4)
        way = []
        for y in range(12):
            way += [(x, y) for x in (range(12) if y % 2 == 0 else range(11, -1, -1))]
        rows = [empty(fabric) for _ in range(144)]
        came = 3
        for at, (x, y) in enumerate(way):
            goes = 3 if at == 143 else [beside(fabric, x, y, side) for side in range(4)].index(way[at + 1])
            for track in range(8):
                rows[12 * y + x][5][8 * goes + track] = 2 + came
            came = goes ^ 2
        ins = [(0, 0, 3, track) for track in range(8)]
        outs = [(0, 11, 3, track) for track in range(8)]
        config = ("config", fabric, rows, ins, outs)
        random = Random(1)
        inputs = [[random.randint(0, 1) for _ in range(8)] for _ in range(5)]
        self.assertEqual(run(bits_of(config), inputs), inputs)
        # Through the tables of all places, each of which turns the bit.
        for number, setting in enumerate(rows):
            codes = setting[5]
            leaving = [at for at, code in enumerate(codes) if code > 1]
            tap = 2 + 8 * (codes[leaving[0]] - 2)
            rows[number] = ("setting", 1, 0, 0, [tap, 0, 0, 0], [1 if code > 1 else 0 for code in codes])
        self.assertEqual(run(bits_of(config), inputs), [[bits[0]] * 8 for bits in inputs])
        # One place that is kept more, and all is told a cycle later.
        rows[70] = with_item(with_item(rows[70], 2, 1), 3, 1)
        told = run(bits_of(config), inputs)
        self.assertEqual(told[1:], [[bits[0]] * 8 for bits in inputs[:-1]])

    def test_large_made_ones(self):
        for seed in range(3):
            random = Random(seed)
            fabric = ("fabric", 12, 12, 8, 4)
            settings = [("setting", random.randrange(65536), 1, random.randint(0, 1),
                         [random.randrange(34) for _ in range(4)], [random.choice((0, 0, 1, 1, 4)) for _ in range(32)])
                        for _ in range(144)]
            ends = [(x, y, side, track) for x, y, side in borders(fabric) for track in range(8)]
            config = ("config", fabric, settings, random.sample(ends, 64), random.sample(ends, 64))
            bits = bits_of(config)
            circle = Plain(config, None, None).circle()
            self.assertEqual(circle, [])
            state = plain_start(config)
            rows = [[random.randint(0, 1) for _ in range(64)] for _ in range(3)]
            told = []
            for inputs in rows:
                row, state = plain_step(config, state, inputs)
                told.append(row)
            self.assertEqual(run(bits, rows), told)


if __name__ == "__main__":
    unittest.main()
