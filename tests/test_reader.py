"""Chapter 22 (points 22.1 to 22.4) and reader.py of the interface."""

import unittest
from random import Random

from calling import called, with_item
from cellcloth import device
from cellcloth.bits import bits_of, config_of
from cellcloth.errors import BitsError, LoopError
from cellcloth.fabric import borders, check, empty, places_of
from cellcloth.nets import check as check_net
from cellcloth.nets import run, step
from cellcloth.reader import net_of, remarks, trimmed
from configmaking import made_config
from netmaking import random_rows
from plainparts import code_of, directly, wires_of

IDLE = ("idle place", "idle wire", "idle input")


def needed_of(config):
    found = {("wire", *told) for told in config[4]}
    while True:
        more = {other for part in found for other in directly(config, part)} - found
        if not more:
            return found
        found |= more


def plain_remarks(config):
    """Point 22.3, kind by kind."""
    wanted = needed_of(config)
    told = []
    for number, (x, y) in enumerate(places_of(config[1])):
        if ("output", x, y) not in wanted and config[2][number][:5] != empty(config[1])[:5]:
            told.append(("idle place", number))
    for wire in wires_of(config[1]):
        if code_of(config, wire) and wire not in wanted:
            told.append(("idle wire", wire[1:]))
        if not code_of(config, wire) and wire in wanted:
            told.append(("loose wire", wire[1:]))
    told += [("idle input", at) for at, name in enumerate(config[3]) if ("side", *name) not in wanted]
    sides = [(*side, track) for side in borders(config[1]) for track in range(config[1][3])]
    return told + [("loose side", name) for name in sorted(sides)
                   if ("side", *name) in wanted and name not in config[3]]


def running(many, **forms):
    """Configs whose devices run."""
    for seed in range(many):
        config = made_config(seed, **forms)
        try:
            device.start(bits_of(config))
        except LoopError:
            continue
        yield seed, config


def of_rows(*settings, ins=(), outs=(), tracks=1):
    """A config of places in a row."""
    return ("config", ("fabric", len(settings), 1, tracks, len(settings[0][4])), list(settings), list(ins), list(outs))


class NetTest(unittest.TestCase):
    SETTING = ("setting", 1, 1, 0, [1], [0, 1, 2, 0])
    BITS = bits_of(("config", ("fabric", 1, 1, 1, 1), [SETTING], [(0, 0, 2, 0)], [(0, 0, 1, 0), (0, 0, 3, 0)]))

    def check(self, config, rows):
        bits = bits_of(config)
        net = called(self, net_of, bits)
        self.assertIsNone(check_net(net))
        kept = [at for at, setting in enumerate(config[2]) if setting[2] == 1]
        self.assertEqual((net[0], net[1], len(net[5])), ("net", len(config[3]), len(config[4])))
        self.assertEqual(net[2], [config[2][at][3] for at in kept])
        self.assertEqual(run(net, rows), device.run(bits, rows))
        state = device.start(bits)
        flops = net[2]
        for row in rows:
            self.assertEqual(flops, [state[at] for at in kept])
            told, state = device.step(bits, state, row)
            net_told, flops = step(net, flops, row)
            self.assertEqual(net_told, told)

    def test_example(self):
        self.assertEqual(run(called(self, net_of, self.BITS), [[1], [1], [0]]), [[0, 0], [1, 0], [0, 0]])
        self.assertEqual(called(self, remarks, self.BITS),
                         [("idle wire", (0, 0, 2, 0)), ("loose wire", (0, 0, 3, 0)), ("idle input", 0)])

    def test_many(self):
        count = 0
        for forms in ({"drives": (0, 0, 0, 1, 1, 2, 3, 4, 5), "kept": 0.7}, {"kept": 1}, {"drives": (0, 1), "kept": 0.5}):
            for seed, config in running(120, **forms):
                self.check(config, random_rows(seed, len(config[3]), 12))
                count += 1
        self.assertGreater(count, 100)

    def test_all_tables_of_one_pin_and_two(self):
        for pins in (1, 2):
            for table in range(2 ** 2 ** pins):
                for kept in (0, 1):
                    setting = ("setting", table, kept, 0, [2, 3][:pins], [0, 0, 1, 0])
                    config = of_rows(setting, ins=[(0, 0, 0, 0), (0, 0, 1, 0)], outs=[(0, 0, 2, 0)])
                    self.check(config, [[k & 1, k >> 1] for k in (0, 1, 2, 3, 3, 2, 1, 0)])

    def test_twelve_by_twelve(self):
        random = Random(1)
        fabric = ("fabric", 12, 12, 2, 4)
        ends = [(*side, track) for side in borders(fabric) for track in range(2)]
        settings = [("setting", random.randrange(65536), 1, random.randint(0, 1), [random.randrange(10) for _ in range(4)],
                     [random.choice((0, 1, 1)) for _ in range(8)]) for _ in range(144)]
        config = ("config", fabric, settings, random.sample(ends, 30), random.sample(ends, 64))
        self.check(config, random_rows(1, 30, 30))

    def test_errors_as_the_device(self):
        for bits in ([], [0] * 27, self.BITS[:-1], self.BITS + [0], with_item(self.BITS, 40, 1 - self.BITS[40])):
            with self.assertRaises(BitsError) as expected:
                device.run(bits, [])
            for function in (net_of, remarks):
                with self.assertRaises(BitsError) as caught:
                    function(bits)
                self.assertEqual(caught.exception.at, expected.exception.at)
        config = of_rows(*[("setting", 0, 0, 0, [1], [0, 0, 0, 0])] * 2)
        with self.assertRaises(LoopError) as caught:
            net_of(bits_of(config))
        self.assertEqual(caught.exception.places, [0, 1])


class RemarkTest(unittest.TestCase):
    EMPTY = ("setting", 0, 0, 0, [0], [0, 0, 0, 0])

    def test_each_kind_and_their_order(self):
        # The first place feeds the second one with what comes from outside on the left; the third one is idle.
        first = ("setting", 2, 0, 0, [5], [0, 1, 0, 0])
        second = ("setting", 2, 1, 0, [5], [1, 4, 1, 0])
        third = ("setting", 0, 0, 0, [4], [0, 0, 0, 3])
        config = of_rows(first, second, third, ins=[(2, 0, 1, 0), (0, 0, 0, 0)], outs=[(1, 0, 0, 0), (2, 0, 2, 0)])
        self.assertEqual(called(self, remarks, bits_of(config)), [
            ("idle place", 2), ("idle wire", (1, 0, 1, 0)), ("idle wire", (1, 0, 2, 0)), ("loose wire", (2, 0, 2, 0)),
            ("idle wire", (2, 0, 3, 0)), ("idle input", 0), ("idle input", 1), ("loose side", (0, 0, 3, 0))])

    def test_nothing_to_remark(self):
        self.assertEqual(remarks(bits_of(of_rows(self.EMPTY))), [])
        config = of_rows(("setting", 2, 0, 0, [5], [0, 1, 0, 0]), ins=[(0, 0, 3, 0)], outs=[(0, 0, 1, 0)])
        self.assertEqual(remarks(bits_of(config)), [])

    def test_what_makes_a_place_idle(self):
        for part, worth in ((1, 1), (2, 1), (3, 1), (4, [2])):
            config = of_rows(with_item(self.EMPTY, part, worth))
            self.assertEqual(remarks(bits_of(config)), [("idle place", 0)])
        # Its drives do not.
        config = of_rows(with_item(self.EMPTY, 5, [2, 0, 0, 0]), outs=[(0, 0, 0, 0)])
        self.assertEqual(remarks(bits_of(config)), [("loose side", (0, 0, 0, 0))])

    def test_through_kept_places_and_around(self):
        """A kept place needs its table, also if it needs itself by it."""
        config = of_rows(("setting", 6, 1, 0, [1, 5], [1, 0, 0, 0]), ins=[(0, 0, 3, 0)], outs=[(0, 0, 0, 0)])
        self.assertEqual(remarks(bits_of(config)), [])
        config = of_rows(("setting", 2, 1, 0, [1], [1, 0, 0, 0]), ins=[(0, 0, 3, 0)], outs=[(0, 0, 0, 0)])
        self.assertEqual(remarks(bits_of(config)), [("idle input", 0)])

    def test_names_of_loose_sides_ascend(self):
        """By x first, not by the numbers of the places."""
        fabric = ("fabric", 2, 2, 1, 1)
        settings = [with_item(self.EMPTY, 5, drives) for drives in ([0, 0, 0, 5], [2, 0, 0, 0], [0, 0, 0, 5], [0, 3, 0, 0])]
        outs = [(0, 0, 3, 0), (1, 0, 0, 0), (0, 1, 3, 0), (1, 1, 1, 0)]
        told = remarks(bits_of(("config", fabric, settings, [], outs)))
        self.assertEqual(told, [("loose side", name) for name in sorted(outs)])

    def test_many(self):
        kinds = set()
        for forms in ({"drives": (0, 0, 1, 1, 2, 3, 4, 5), "kept": 0.7}, {"kept": 1}):
            for _, config in running(200, **forms):
                told = called(self, remarks, bits_of(config))
                self.assertEqual(told, plain_remarks(config))
                kinds |= {remark[0] for remark in told}
        self.assertEqual(len(kinds), 5)


class TrimmedTest(unittest.TestCase):
    def test_to_the_letter(self):
        for forms in ({"drives": (0, 0, 1, 1, 2, 3, 4, 5), "kept": 0.7}, {"kept": 1}, {"drives": (0, 1), "kept": 0.5}):
            for seed, config in running(150, **forms):
                told = called(self, trimmed, config)
                self.assertIsNone(check(told))
                wanted = needed_of(config)
                settings = []
                for number, (x, y) in enumerate(places_of(config[1])):
                    word, *rest, drives = config[2][number] if ("output", x, y) in wanted else empty(config[1])
                    drives = [code_of(config, wire) if wire in wanted else 0
                              for wire in wires_of(config[1]) if wire[1:3] == (x, y)]
                    settings.append((word, *rest, drives))
                self.assertEqual(told, ("config", config[1], settings, config[3], config[4]))
                rows = random_rows(seed, len(config[3]), 15)
                self.assertEqual(device.run(bits_of(told), rows), device.run(bits_of(config), rows))
                idle = [remark for remark in remarks(bits_of(told)) if remark[0] in IDLE]
                self.assertEqual(idle, [remark for remark in remarks(bits_of(config)) if remark[0] == "idle input"])
                self.assertEqual(trimmed(told), told)

    def test_it_is_new(self):
        config = config_of(NetTest.BITS)
        told = trimmed(config)
        told[2][0][5][0] = 9
        told[3].append(9)
        self.assertEqual(config, config_of(NetTest.BITS))


if __name__ == "__main__":
    unittest.main()
