"""Section Times (points 20.1 to 20.3) and times.py of the interface."""

import unittest
from random import Random

from calling import called, is_false, is_true, with_item
from cellcloth.errors import LoopError
from cellcloth.fabric import beside, opposite, places_of
from cellcloth.place import placed
from cellcloth.route import routed
from cellcloth.times import times, times_right
from cellmaking import cases
from configmaking import made_config

ALL_DELAYS = [("delays", *numbers) for numbers in (
    (0, 0, 0), (1, 0, 0), (0, 1, 0), (0, 0, 1), (5, 2, 1), (1, 1, 9), (3, 10 ** 40, 7), (0, 4, 2), (2, 0, 3))]


def named(config, x, y, code, side, track):
    """What a code names, by point 14.4."""
    if code == 0:
        return None
    if code == 1:
        return ("output", x, y)
    place = beside(config[1], x, y, side)
    return ("wire", *place, opposite(side), track) if place else ("side", x, y, side, track)


def names_of(config, part):
    _, x, y = part[:3]
    tracks = config[1][3]
    setting = config[2][y * config[1][1] + x]
    if part[0] == "table":
        return [named(config, x, y, code, (code - 2) // tracks, (code - 2) % tracks) for code in setting[4]]
    code = setting[5][part[3] * tracks + part[4]]
    return [named(config, x, y, code, code - 2, part[4])]


def is_kept(config, part):
    return config[2][part[2] * config[1][1] + part[1]][2] == 1


def plain_time(config, delays, part, known):
    """Point 20.1, part by part."""
    if part is None or part[0] == "side":
        return 0
    if part[0] == "output":
        return delays[3] if is_kept(config, part) else plain_time(config, delays, ("table", *part[1:]), known)
    if part not in known:
        below = max(plain_time(config, delays, other, known) for other in names_of(config, part))
        if part[0] == "table":
            known[part] = delays[1] + below
        else:
            known[part] = 0 if names_of(config, part) == [None] else delays[2] + below
    return known[part]


def ends_of(config):
    tables = [("table", x, y) for x, y in places_of(config[1]) if is_kept(config, ("table", x, y))]
    return tables + [("wire", *told) for told in config[4]]


def wires_of(config, x, y):
    return [("wire", x, y, side, track) for side in range(4) for track in range(config[1][3])]


def plain_paper(config, delays):
    """The period, and the times of tables and wires."""
    known = {}
    tables = [plain_time(config, delays, ("table", *place), known) for place in places_of(config[1])]
    wires = [[plain_time(config, delays, wire, known) for wire in wires_of(config, *place)]
             for place in places_of(config[1])]
    return max([0] + [plain_time(config, delays, part, known) for part in ends_of(config)]), tables, wires


def path_length(config, delays, path):
    """What a path takes by point 20.3."""
    told = sum(delays[1] if part[0] == "table" else delays[2] for part in path)
    starts = [part for part in names_of(config, path[0]) if part and part[0] == "output" and is_kept(config, part)]
    return told + (delays[3] if starts else 0)


def running(many, **forms):
    """Configs without circles, with delays."""
    for seed in range(many):
        config = made_config(seed, drives=(0, 0, 1, 1, 2, 3, 4, 5), **forms)
        delays = ALL_DELAYS[seed % len(ALL_DELAYS)]
        try:
            times(config, delays)
        except LoopError:
            continue
        yield config, delays


def one_place(setting, ins=(), outs=(), tracks=1):
    return ("config", ("fabric", 1, 1, tracks, len(setting[4])), [setting], list(ins), list(outs))


class TimesTest(unittest.TestCase):
    SETTING = ("setting", 1, 1, 0, [1], [0, 1, 0, 4])
    CONFIG = one_place(SETTING, [(0, 0, 2, 0)], [(0, 0, 1, 0), (0, 0, 3, 0)])

    def check(self, config, delays):
        told = called(self, times, config, delays)
        self.assertIs(type(told), tuple)
        period, paper = told
        least, tables, wires = plain_paper(config, delays)
        self.assertEqual(period, least)
        self.assertEqual((type(paper), paper[0]), (tuple, "times"))
        is_true(self, times_right, config, delays, period, paper)
        is_true(self, times_right, config, delays, period, ("times", tables, wires, paper[3]))
        self.check_path(config, delays, period, paper[3])
        return period, paper

    def check_path(self, config, delays, period, path):
        if not path:
            self.assertEqual(period, 0)
            return
        self.assertIn(path[-1], ends_of(config))
        for before, part in zip(path, path[1:]):
            below = [("table", *other[1:]) if other and other[0] == "output" and not is_kept(config, other) else other
                     for other in names_of(config, part)]
            self.assertIn(before, below)
        self.assertEqual(path_length(config, delays, path), period)

    def test_example(self):
        delays = ("delays", 5, 2, 1)
        self.assertEqual(self.check(self.CONFIG, delays)[0], 6)
        is_true(self, times_right, self.CONFIG, delays, 6, ("times", [6], [[0, 3, 0, 2]], [("table", 0, 0)]))

    def test_each_delay(self):
        for delays, period in (((0, 0, 0), 0), ((5, 0, 0), 5), ((0, 2, 0), 2), ((0, 0, 1), 1), ((0, 2, 3), 5),
                               ((1, 7, 3), 10), ((10 ** 50, 2, 1), 10 ** 50 + 1)):
            self.assertEqual(self.check(self.CONFIG, ("delays", *delays))[0], period)

    def test_many(self):
        count = 0
        for config, delays in running(400):
            self.check(config, delays)
            count += 1
        for config, delays in running(100, kept=0):
            self.check(config, delays)
            count += 1
        self.assertGreater(count, 150)

    def test_configs_of_cells(self):
        for seed, (cells, fabric) in enumerate(cases(60, circles=False)):
            config, _ = routed(cells, fabric, placed(cells, fabric))
            for delays in ALL_DELAYS:
                self.check(config, delays)

    def test_nothing_that_counts(self):
        """Neither a kept place nor an output: the period is 0."""
        config = one_place(("setting", 1, 0, 0, [4], [1, 1, 1, 1]), [(0, 0, 2, 0)])
        self.assertEqual(self.check(config, ("delays", 5, 2, 1)),
                         (0, ("times", [5], [[7, 7, 7, 7]], [])))
        # An output without a code takes no time.
        config = one_place(("setting", 1, 0, 0, [0], [1, 0, 1, 1]), [], [(0, 0, 1, 0)])
        self.assertEqual(self.check(config, ("delays", 5, 2, 1))[0], 0)

    def test_a_wire_that_turns_back(self):
        # From the left place to the right one and back, and then out.
        fabric = ("fabric", 2, 1, 1, 1)
        left = ("setting", 0, 0, 0, [0], [0, 5, 0, 3])
        right = ("setting", 0, 0, 0, [0], [0, 0, 0, 5])
        config = ("config", fabric, [left, right], [(0, 0, 3, 0)], [(0, 0, 3, 0)])
        period, paper = self.check(config, ("delays", 5, 2, 1))
        self.assertEqual((period, paper[3]),
                         (6, [("wire", 0, 0, 1, 0), ("wire", 1, 0, 3, 0), ("wire", 0, 0, 3, 0)]))

    def test_through_several_places(self):
        fabric = ("fabric", 3, 1, 2, 1)
        first = ("setting", 2, 1, 0, [0], [0, 0, 1, 0, 0, 0, 0, 0])
        middle = ("setting", 2, 0, 0, [8], [0, 0, 0, 1, 0, 0, 0, 0])
        last = ("setting", 2, 1, 0, [9], [0, 0, 0, 0, 0, 0, 0, 0])
        config = ("config", fabric, [first, middle, last], [], [])
        period, paper = self.check(config, ("delays", 5, 2, 100))
        self.assertEqual((period, paper[3]), (100 + 2 + 5 + 2 + 5, [
            ("wire", 0, 0, 1, 0), ("table", 1, 0), ("wire", 1, 0, 1, 1), ("table", 2, 0)]))

    def test_circles(self):
        with self.assertRaises(LoopError) as caught:
            times(one_place(("setting", 0, 0, 0, [1], [0, 0, 0, 0])), ("delays", 1, 1, 1))
        self.assertEqual(caught.exception.places, [0])
        # Two wires that each turn back to the other one.
        empty = ("setting", 0, 0, 0, [0], [0, 0, 0, 0])
        middle = with_item(empty, 5, [0, 3, 0, 0])
        config = ("config", ("fabric", 3, 1, 1, 1), [empty, middle, with_item(empty, 5, [0, 0, 0, 5])], [], [])
        with self.assertRaises(LoopError) as caught:
            times(config, ("delays", 0, 0, 0))
        self.assertEqual(caught.exception.places, [1, 2])


class RightTest(unittest.TestCase):
    DELAYS = ("delays", 5, 2, 1)
    CONFIG = TimesTest.CONFIG
    PAPER = ("times", [6], [[0, 3, 0, 2]], [("table", 0, 0)])

    def check(self, right, paper, period=6, delays=DELAYS, config=CONFIG):
        self.assertIs(called(self, times_right, config, delays, period, paper), right, (paper, period))

    def test_greater_integers(self):
        for wires in ([9, 3, 0, 2], [0, 4, 0, 2], [0, 6, 0, 6], [99, 5, 99, 3]):
            self.check(True, with_item(self.PAPER, 2, [wires]))
        # What the period is measured at is at most the period.
        for wires in ([0, 7, 0, 2], [0, 3, 0, 7]):
            self.check(False, with_item(self.PAPER, 2, [wires]))
        self.check(False, with_item(self.PAPER, 1, [7]))
        config = with_item(self.CONFIG, 4, [])
        self.check(True, with_item(self.PAPER, 2, [[9, 99, 9, 99]]), config=config)

    def test_too_small_integers(self):
        for wires in ([0, 2, 0, 2], [0, 3, 0, 1], [-1, 3, 0, 2], [0, 3, -1, 2], [0, 0, 0, 2]):
            self.check(False, with_item(self.PAPER, 2, [wires]))
        for table in (5, 0, -1):
            self.check(False, with_item(self.PAPER, 1, [table]))

    def test_wrong_lengths(self):
        for tables in ([], [6, 6]):
            self.check(False, with_item(self.PAPER, 1, tables))
        for wires in ([], [[]], [[0, 3, 0]], [[0, 3, 0, 2, 0]], [[0, 3, 0, 2], []], [[0, 3, 0, 2], [0, 3, 0, 2]]):
            self.check(False, with_item(self.PAPER, 2, wires))

    def test_wrong_paths(self):
        for path in ([], [("table", 0, 1)], [("table", 1, 0)], [("table", -1, 0)], [("wire", 0, 0, 1, 0)],
                     [("wire", 0, 0, 1, 0), ("table", 0, 0)], [("table", 0, 0), ("table", 0, 0)],
                     [("wire", 0, 0, 4, 0)], [("wire", 0, 0, 1, 1)], [("wire", 0, 0, 0, 0)], [("wire", 0, 0, 3, 0)],
                     [("table", 0, 0), ("wire", 0, 0, 1, 0)], [("wire", 0, 0, 2, 0)]):
            self.check(False, with_item(self.PAPER, 3, path))

    def test_wrong_periods(self):
        for period in (5, 7, 0, -1, -6):
            self.check(False, self.PAPER, period)
            self.check(False, with_item(self.PAPER, 3, []), period)
        self.check(False, ("times", [0], [[0, 0, 0, 0]], []), -1, ("delays", 0, 0, 0))
        self.check(True, ("times", [0], [[0, 0, 0, 0]], []), 0, ("delays", 0, 0, 0))
        empty = one_place(("setting", 0, 0, 0, [0], [0, 0, 0, 0]))
        self.check(True, ("times", [5], [[0, 0, 0, 0]], []), 0, config=empty)
        self.check(False, ("times", [5], [[0, 0, 0, 0]], [("table", 0, 0)]), 5, config=empty)
        for period in (-1, 1):
            self.check(False, ("times", [5], [[0, 0, 0, 0]], []), period, config=empty)

    def test_paths_of_length_0(self):
        delays = ("delays", 0, 0, 0)
        paper = ("times", [0], [[0, 0, 0, 0]], [])
        for path in ([], [("table", 0, 0)], [("wire", 0, 0, 1, 0)], [("wire", 0, 0, 3, 0)]):
            self.check(True, with_item(paper, 3, path), 0, delays)
        # The code 0, no end, a part that names nothing of it.
        config = with_item(self.CONFIG, 4, [(0, 0, 1, 0), (0, 0, 0, 0)])
        for path in ([("wire", 0, 0, 0, 0)], [("wire", 0, 0, 2, 0)], [("wire", 0, 0, 3, 0)],
                     [("wire", 0, 0, 1, 0), ("table", 0, 0)]):
            self.check(False, with_item(paper, 3, path), 0, delays, config)

    def test_other_paths_of_the_same_length(self):
        # Both wires into the right place take as long.
        fabric = ("fabric", 2, 1, 2, 2)
        left = ("setting", 1, 1, 0, [0, 0], [0, 0, 1, 1, 0, 0, 0, 0])
        right = ("setting", 1, 1, 0, [8, 9], [0] * 8)
        config = ("config", fabric, [left, right], [], [])
        period, paper = times(config, self.DELAYS)
        self.assertEqual(period, 8)
        for track in range(2):
            path = [("wire", 0, 0, 1, track), ("table", 1, 0)]
            self.check(True, with_item(paper, 3, path), 8, config=config)
        for path in ([("table", 1, 0)], [("wire", 0, 0, 1, 0)], [("wire", 0, 0, 1, 0), ("wire", 0, 0, 1, 1), ("table", 1, 0)],
                     [("table", 0, 0), ("wire", 0, 0, 1, 0), ("table", 1, 0)]):
            self.check(False, with_item(paper, 3, path), 8, config=config)
        # The output of a kept place does not stand for its table, also if the sum is right.
        self.check(False, with_item(paper, 3, [("table", 0, 0), ("wire", 0, 0, 1, 0), ("table", 1, 0)]), 12,
                   config=config)

    def test_each_change_of_a_time(self):
        for config, delays in running(150):
            period, paper = times(config, delays)
            least, tables, wires = plain_paper(config, delays)
            random = Random(period)
            at = random.randrange(len(tables))
            paper = ("times", tables, wires, paper[3])
            is_false(self, times_right, config, delays, period, with_item(paper, 1, with_item(tables, at, tables[at] - 1)))
            k = random.randrange(len(wires[at]))
            less = with_item(wires, at, with_item(wires[at], k, wires[at][k] - 1))
            is_false(self, times_right, config, delays, period, with_item(paper, 2, less))
            for other in (period - 1, period + 1, -1):
                is_false(self, times_right, config, delays, other, paper)
            # All times much later, but for what the period is measured at.
            late = [("table", x, y) in ends_of(config) for x, y in places_of(config[1])]
            if not any(late) and not config[4]:
                later = ("times", [told + 9 for told in tables], [[told + 9 for told in row] for row in wires], paper[3])
                is_true(self, times_right, config, delays, period, later)

    def test_circles(self):
        """Nothing is asked of a circle but what point 20.3 says."""
        setting = ("setting", 1, 0, 0, [1], [0, 1, 0, 0])
        config = one_place(setting, [], [(0, 0, 1, 0)])
        path = [("table", 0, 0), ("wire", 0, 0, 1, 0)]
        delays = ("delays", 0, 2, 9)
        for late in (0, 3):
            paper = ("times", [late], [[0, late + 2, 0, 0]], path)
            self.check(late == 0, paper, late + 2, delays, config)
        # The table names itself, so it may stand several times.
        self.check(True, ("times", [0], [[0, 2, 0, 0]], path[:1] * 3 + path[1:]), 2, delays, config)
        # With a delay no integer is great enough.
        for late in (0, 5, 10 ** 20):
            self.check(False, ("times", [late], [[0, late + 2, 0, 0]], path), late + 2, ("delays", 1, 2, 9), config)


if __name__ == "__main__":
    unittest.main()
