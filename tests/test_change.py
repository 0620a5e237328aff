"""Chapter 24 (points 24.1 to 24.5) and change.py of the interface."""

import unittest
from random import Random

from calling import called, is_false, is_true, with_item
from cellcloth import device
from cellcloth.bits import bits_of
from cellcloth.change import changed_places, changed_run, switched, undisturbed, undisturbed_right
from cellcloth.errors import LoopError
from cellcloth.fabric import borders, places_of
from configmaking import made_config
from netmaking import random_rows
from plainparts import code_of, directly, wires_of


def config(start, code):
    return ("config", ("fabric", 1, 1, 1, 1), [("setting", 1, 1, start, [1], [0, 1, code, 0])], [], [(0, 0, 1, 0)])


def setting_of(told, part):
    return told[2][part[2] * told[1][1] + part[1]]


def is_same(first, second, part):
    """Whether a part is the same in both configs, by point 24.2."""
    if part[0] == "wire":
        return code_of(first, part) == code_of(second, part)
    if part[0] == "side":
        one, other = [told[3].index(part[1:]) if part[1:] in told[3] else None for told in (first, second)]
        return one == other
    return setting_of(first, part)[:5] == setting_of(second, part)[:5]


def steady_of(first, second):
    """The greatest set, by leaving out what may not be in it until nothing changes."""
    parts = set(wires_of(first[1])) | {(word, x, y) for x, y in places_of(first[1]) for word in ("output", "table")}
    parts |= {("side", *side, track) for side in borders(first[1]) for track in range(first[1][3])}
    parts = {part for part in parts if is_same(first, second, part)}
    while True:
        fewer = {part for part in parts if all(other in parts for other in directly(first, part))}
        if fewer == parts:
            return parts
        parts = fewer


def plain_undisturbed(first, second):
    steady = steady_of(first, second)
    outs = [at for at, (one, other) in enumerate(zip(first[4], second[4])) if one == other and ("wire", *one) in steady]
    places = [number for number, place in enumerate(places_of(first[1])) if ("output", *place) in steady]
    return outs, places, [wire[1:] for wire in wires_of(first[1]) if wire in steady]


def plain_right(first, second, told):
    """Point 24.4, word by word."""
    outs, numbers, names = told
    places = places_of(first[1])
    if any(number not in range(len(places)) for number in numbers):
        return False
    named = {(word, *places[number]) for number in numbers for word in ("output", "table")}
    named |= {("wire", *name) for name in names}
    if not named <= set(wires_of(first[1])) | {(word, *place) for place in places for word in ("output", "table")}:
        return False
    for at in outs:
        if at not in range(min(len(first[4]), len(second[4]))) or first[4][at] != second[4][at]:
            return False
        if ("wire", *first[4][at]) not in named:
            return False
    for part in named:
        below = directly(first, part)
        if not is_same(first, second, part):
            return False
        if any(other not in named and (other[0] != "side" or not is_same(first, second, other)) for other in below):
            return False
    return True


def changed(told, seed, many):
    """A config with some other numbers; what is changed may be nothing."""
    random = Random(seed)
    word, fabric, settings, ins, outs = told
    ends = [(*side, track) for side in borders(fabric) for track in range(fabric[3])]
    for _ in range(many):
        at = random.randrange(len(settings))
        form = random.choice(("table", "kept", "start", "tap", "drive", "drive", "in", "out", "outs"))
        setting = settings[at]
        if form == "table":
            setting = with_item(setting, 1, random.randrange(2 ** 2 ** fabric[4]))
        elif form in ("kept", "start"):
            setting = with_item(setting, 2 if form == "kept" else 3, random.randint(0, 1))
        elif form == "tap":
            setting = with_item(setting, 4, with_item(setting[4], random.randrange(fabric[4]), random.randrange(2)))
        elif form == "drive":
            drives = with_item(setting[5], random.randrange(4 * fabric[3]), random.choice((0, 0, 1, 2, 3, 4, 5)))
            setting = with_item(setting, 5, drives)
        elif form == "in" and ins:
            other = with_item(ins, random.randrange(len(ins)), random.choice(ends))
            ins = other if len(set(other)) == len(other) else ins
        elif form == "out" and outs:
            other = with_item(outs, random.randrange(len(outs)), random.choice(ends))
            outs = other if len(set(other)) == len(other) else outs
        elif form == "outs":
            outs = outs[:-1] if random.random() < 0.5 else outs + [end for end in ends if end not in outs][:1]
        settings = with_item(settings, at, setting)
    return (word, fabric, settings, ins, outs)


def changes(many):
    """Pairs of configs whose devices run, with the same number of inputs."""
    count = 0
    for seed in range(20 * many):
        first = made_config(seed, drives=(0, 0, 0, 1, 1, 2, 3, 4, 5), kept=0.8)
        second = changed(first, seed, seed % 6)
        try:
            device.start(bits_of(first))
            device.start(bits_of(second))
        except LoopError:
            continue
        yield seed, first, second
        count += 1
        if count == many:
            return


class PlacesTest(unittest.TestCase):
    def test_settings_that_differ(self):
        self.assertEqual(called(self, changed_places, config(0, 0), config(0, 0)), [])
        self.assertEqual(changed_places(config(0, 0), config(0, 1)), [0])
        self.assertEqual(changed_places(config(0, 0), with_item(config(0, 0), 4, [])), [])
        for _, first, second in changes(80):
            expected = [at for at in range(len(first[2])) if first[2][at] != second[2][at]]
            self.assertEqual(called(self, changed_places, first, second), expected)


class UndisturbedTest(unittest.TestCase):
    def test_example(self):
        self.assertEqual([undisturbed(config(0, 0), config(0, 1)), undisturbed(config(0, 0), config(1, 0))],
                         [([0], [0], [(0, 0, 0, 0), (0, 0, 1, 0), (0, 0, 3, 0)]),
                          ([], [], [(0, 0, 0, 0), (0, 0, 2, 0), (0, 0, 3, 0)])])

    def test_many(self):
        kinds = set()
        for _, first, second in changes(150):
            told = called(self, undisturbed, first, second)
            self.assertEqual((type(told), [type(part) for part in told]), (tuple, [list] * 3))
            self.assertEqual(told, plain_undisturbed(first, second))
            is_true(self, undisturbed_right, first, second, told)
            kinds.add((bool(told[0]), len(told[1]) == len(first[2]), first == second))
        self.assertGreater(len(kinds), 4)

    def test_circles_over_kept_bits(self):
        """Two kept places that have one another are steady, as long as nothing in the circle changes."""
        fabric = ("fabric", 2, 1, 1, 1)
        left = ("setting", 2, 1, 1, [3], [0, 1, 0, 0])
        right = ("setting", 2, 1, 0, [5], [0, 1, 0, 1])
        first = ("config", fabric, [left, right], [(0, 0, 3, 0)], [(1, 0, 1, 0), (0, 0, 0, 0)])
        second = with_item(first, 2, [with_item(left, 5, [2, 1, 0, 0]), right])
        told = undisturbed(first, second)
        self.assertEqual(told[:2], ([0], [0, 1]))
        self.assertEqual(told[2], [(0, 0, 1, 0), (0, 0, 2, 0), (0, 0, 3, 0),
                                   (1, 0, 0, 0), (1, 0, 1, 0), (1, 0, 2, 0), (1, 0, 3, 0)])
        for at, setting in ((0, with_item(left, 1, 1)), (0, with_item(left, 3, 0)), (1, with_item(right, 3, 1)),
                            (1, with_item(right, 4, [4])), (0, with_item(left, 5, [0, 0, 0, 0]))):
            other = with_item(first, 2, with_item([left, right], at, setting))
            # What the other output tells comes from nothing, so it stays.
            self.assertEqual(undisturbed(first, other)[:2], ([1], []))

    def test_inputs(self):
        """A wire from outside is the same input, or none, in both."""
        fabric = ("fabric", 1, 1, 2, 1)
        setting = ("setting", 2, 0, 0, [2], [0] * 4 + [2, 2, 0, 0])
        first = ("config", fabric, [setting], [(0, 0, 0, 0), (0, 0, 0, 1)], [(0, 0, 2, 0), (0, 0, 2, 1)])
        self.assertEqual(undisturbed(first, first)[:2], ([0, 1], [0]))
        swapped = with_item(first, 3, first[3][::-1])
        self.assertEqual(undisturbed(first, swapped)[:2], ([], []))
        moved = with_item(first, 3, [(0, 0, 0, 0), (0, 0, 1, 1)])
        self.assertEqual(undisturbed(first, moved)[:2], ([0], [0]))
        self.assertEqual(undisturbed(moved, first)[:2], ([0], [0]))
        none = with_item(first, 3, [])
        self.assertEqual(undisturbed(none, none)[:2], ([0, 1], [0]))

    def test_outputs(self):
        first = with_item(config(0, 1), 4, [(0, 0, 1, 0), (0, 0, 2, 0)])
        for outs, expected in (([(0, 0, 2, 0), (0, 0, 1, 0)], []), ([(0, 0, 1, 0)], [0]), ([], []),
                               ([(0, 0, 0, 0), (0, 0, 2, 0), (0, 0, 3, 0)], [1])):
            self.assertEqual(undisturbed(first, with_item(first, 4, outs))[0], expected)
            self.assertEqual(undisturbed(with_item(first, 4, outs), first)[0], expected)


class RightTest(unittest.TestCase):
    FIRST, SECOND = config(0, 0), config(0, 1)

    def test_right_ones_of_any_maker(self):
        wires = [(0, 0, 0, 0), (0, 0, 1, 0), (0, 0, 3, 0)]
        for told in (([0], [0], wires), ([0], [0], wires[::-1]), ([0, 0, 0], [0, 0], wires * 2), ([], [], []),
                     ([], [0], []), ([], [0], wires[:2]), ([], [], wires[:1]), ([0], [0], wires[1:2])):
            is_true(self, undisturbed_right, self.FIRST, self.SECOND, told)

    def test_wrong_ones(self):
        wires = [(0, 0, 0, 0), (0, 0, 1, 0), (0, 0, 3, 0)]
        for told in (([0], [], wires), ([], [], wires[1:2]), ([0], [0], []), ([0], [0], [(0, 0, 0, 0)]),
                     ([], [], [(0, 0, 2, 0)]), ([1], [0], wires), ([-1], [0], wires), ([], [1], []), ([], [-1], []),
                     ([], [], [(0, 0, 4, 0)]), ([], [], [(0, 0, -1, 0)]), ([], [], [(0, 0, 0, 1)]),
                     ([], [], [(1, 0, 0, 0)]), ([], [], [(0, -1, 0, 0)])):
            is_false(self, undisturbed_right, self.FIRST, self.SECOND, told)
        is_false(self, undisturbed_right, config(0, 0), config(1, 0), ([], [0], []))
        other = with_item(self.SECOND, 4, [(0, 0, 0, 0)])
        is_false(self, undisturbed_right, self.FIRST, other, ([0], [0], wires))
        is_true(self, undisturbed_right, self.FIRST, other, ([], [0], wires))
        # An output that one of both has not.
        more = with_item(self.SECOND, 4, [(0, 0, 1, 0), (0, 0, 3, 0)])
        is_false(self, undisturbed_right, self.FIRST, more, ([1], [0], wires))
        is_false(self, undisturbed_right, more, self.FIRST, ([1], [0], wires))
        is_true(self, undisturbed_right, more, more, ([1], [0], wires))

    def test_smaller_and_other_sets(self):
        for seed, first, second in changes(80):
            random = Random(seed)
            outs, places, wires = plain_undisturbed(first, second)
            for _ in range(6):
                told = ([at for at in outs if random.random() < 0.7], [at for at in places if random.random() < 0.9],
                        [name for name in wires if random.random() < 0.9])
                self.assertIs(undisturbed_right(first, second, told), plain_right(first, second, told))
            for at in range(len(first[2])):
                told = (outs, sorted(places + [at]), wires)
                self.assertIs(undisturbed_right(first, second, told), plain_right(first, second, told))
            for wire in wires_of(first[1])[:20]:
                told = (outs, places, [wire[1:]] + wires)
                self.assertIs(undisturbed_right(first, second, told), plain_right(first, second, told))
            for at in range(len(first[4])):
                told = (outs + [at], places, wires)
                self.assertIs(undisturbed_right(first, second, told), plain_right(first, second, told))


class RunTest(unittest.TestCase):
    def test_example(self):
        self.assertEqual([switched(config(0, 0), config(0, 1), [1]), switched(config(0, 0), config(1, 0), [0])], [[1], [1]])

    def test_which_bits_stay(self):
        old = ("setting", 1, 1, 0, [1], [0, 0, 0, 0])
        fabric = ("fabric", 1, 1, 1, 1)
        for new, after in ((old, 1), (with_item(old, 5, [1, 1, 1, 1]), 1), (with_item(old, 1, 2), 0), (with_item(old, 3, 1), 1),
                           (with_item(old, 4, [2]), 0), (with_item(with_item(old, 4, [0]), 3, 1), 1),
                           (with_item(old, 2, 0), 0), (with_item(with_item(old, 2, 0), 3, 1), 0)):
            first, second = [("config", fabric, [setting], [], []) for setting in (old, new)]
            self.assertEqual(called(self, switched, first, second, [1]), [after])
        # The other way round: what was not kept has its start.
        for start in (0, 1):
            first = ("config", fabric, [with_item(with_item(old, 2, 0), 3, start)], [], [])
            second = ("config", fabric, [with_item(old, 3, start)], [], [])
            for bit in (0, 1):
                self.assertEqual(switched(first, second, [bit]), [start])
        # With a start of 1 that has become 0 by then.
        first = ("config", fabric, [with_item(old, 3, 1)], [], [])
        self.assertEqual(switched(first, first, [0]), [0])

    def test_runs_with_a_change_at_each_cycle(self):
        for seed, first, second in changes(80):
            rows = random_rows(seed, len(first[3]), 7)
            bits, others = bits_of(first), bits_of(second)
            for count in range(8):
                told = called(self, changed_run, bits, others, rows, count)
                state = device.start(bits)
                expected = []
                for at, row in enumerate(rows):
                    if at == count:
                        state = switched(first, second, state)
                    row, state = device.step(bits if at < count else others, state, row)
                    expected.append(row)
                self.assertEqual(told, expected)
            self.assertEqual(changed_run(bits, others, rows, 7), device.run(bits, rows))
            self.assertEqual(changed_run(bits, others, rows, 0),
                             self.run_from(others, switched(first, second, device.start(bits)), rows))
            self.assertEqual(changed_run(bits, others, [], 0), [])

    def run_from(self, bits, state, rows):
        told = []
        for row in rows:
            row, state = device.step(bits, state, row)
            told.append(row)
        return told

    def test_what_is_not_disturbed_goes_on(self):
        """Point 24.5, for the outputs and for the kept bits."""
        count = 0
        for seed, first, second in changes(80):
            outs, places, _ = undisturbed(first, second)
            rows = random_rows(seed, len(first[3]), 10)
            bits, others = bits_of(first), bits_of(second)
            plain = device.run(bits, rows)
            for at in (0, 3, 10):
                told = changed_run(bits, others, rows, at)
                for row, other in zip(told, plain):
                    self.assertEqual([row[k] for k in outs], [other[k] for k in outs])
                    count += len(outs)
            state = device.start(bits)
            other_state = switched(first, second, state)
            for row in rows:
                self.assertEqual([state[k] for k in places if first[2][k][2]], [other_state[k] for k in places if first[2][k][2]])
                state = device.step(bits, state, row)[1]
                other_state = device.step(others, other_state, row)[1]
        self.assertGreater(count, 300)


if __name__ == "__main__":
    unittest.main()
