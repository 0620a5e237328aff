"""Section The fabric (points 14.1 to 14.5) and fabric.py of the interface."""

import copy
import unittest

from calling import called, with_item
from cellcloth.errors import KindError
from cellcloth.fabric import beside, borders, check, empty, opposite
from configmaking import made_config

FABRIC = ("fabric", 3, 2, 2, 2)


def place_of(config):
    try:
        check(config)
    except KindError as error:
        return error.place
    return None


class SidesTest(unittest.TestCase):
    def test_example(self):
        self.assertEqual(called(self, beside, ("fabric", 2, 1, 1, 2), 0, 0, 1), (1, 0))
        self.assertEqual(called(self, borders, ("fabric", 2, 1, 1, 2)),
                         [(0, 0, 0), (0, 0, 2), (0, 0, 3), (1, 0, 0), (1, 0, 1), (1, 0, 2)])

    def test_opposite(self):
        self.assertEqual([called(self, opposite, side) for side in range(4)], [2, 3, 0, 1])

    def test_beside(self):
        fabric = ("fabric", 3, 3, 1, 1)
        self.assertEqual([beside(fabric, 1, 1, side) for side in range(4)], [(1, 0), (2, 1), (1, 2), (0, 1)])
        self.assertEqual([beside(fabric, 0, 0, side) for side in range(4)], [None, (1, 0), (0, 1), None])
        self.assertEqual([beside(fabric, 2, 2, side) for side in range(4)], [(2, 1), None, None, (1, 2)])
        # Wide and high are not mixed up.
        self.assertEqual([beside(("fabric", 3, 2, 1, 1), 1, 1, side) for side in range(4)],
                         [(1, 0), (2, 1), None, (0, 1)])

    def test_back_again(self):
        for wide in (1, 2, 5, 12):
            for high in (1, 2, 12):
                fabric = ("fabric", wide, high, 3, 2)
                for x in range(wide):
                    for y in range(high):
                        for side in range(4):
                            place = beside(fabric, x, y, side)
                            if place is not None:
                                self.assertEqual(beside(fabric, *place, opposite(side)), (x, y))

    def test_borders(self):
        self.assertEqual(borders(("fabric", 1, 1, 8, 4)), [(0, 0, side) for side in range(4)])
        self.assertEqual(borders(("fabric", 1, 3, 1, 1)), [
            (0, 0, 0), (0, 0, 1), (0, 0, 3), (0, 1, 1), (0, 1, 3), (0, 2, 1), (0, 2, 2), (0, 2, 3)])
        self.assertEqual(borders(("fabric", 3, 3, 1, 1)), [
            (0, 0, 0), (0, 0, 3), (1, 0, 0), (2, 0, 0), (2, 0, 1), (0, 1, 3), (2, 1, 1),
            (0, 2, 2), (0, 2, 3), (1, 2, 2), (2, 2, 1), (2, 2, 2)])
        for wide in range(1, 13):
            for high in (1, 2, 7, 12):
                self.assertEqual(len(borders(("fabric", wide, high, 1, 1))), 2 * (wide + high))


class EmptyTest(unittest.TestCase):
    def test_empty(self):
        self.assertEqual(called(self, empty, ("fabric", 12, 1, 1, 1)), ("setting", 0, 0, 0, [0], [0] * 4))
        self.assertEqual(empty(("fabric", 1, 12, 8, 4)), ("setting", 0, 0, 0, [0] * 4, [0] * 32))

    def test_a_new_one_each_time(self):
        first = empty(FABRIC)
        second = empty(FABRIC)
        first[4][0] = 5
        first[5].append(7)
        self.assertEqual(second, ("setting", 0, 0, 0, [0, 0], [0] * 8))
        self.assertEqual(empty(FABRIC), second)


class CheckTest(unittest.TestCase):
    def setUp(self):
        self.config = ("config", FABRIC, [empty(FABRIC) for _ in range(6)], [(0, 0, 0, 0), (0, 0, 3, 1), (2, 1, 1, 0)],
                       [(0, 0, 0, 0), (1, 1, 2, 1)])

    def with_setting(self, number, setting):
        return with_item(self.config, 2, with_item(self.config[2], number, setting))

    def test_configs(self):
        self.assertIsNone(called(self, check, self.config))
        for seed in range(60):
            self.assertIsNone(called(self, check, made_config(seed)))

    def test_config(self):
        parts = self.config
        for value in (None, True, 5, "config", b"config", [], list(parts), {}, (), ("config",), parts[:4], parts + (0,),
                      ("Config", *parts[1:]), (None, *parts[1:]), (["config"], *parts[1:]), ("fabric", *parts[1:]),
                      (b"config", *parts[1:]), (0, *parts[1:])):
            self.assertEqual(place_of(value), "config")
        for at in (2, 3, 4):
            for part in (None, (), tuple(parts[at]), {}, "", 0, True, "abc"):
                self.assertEqual(place_of(with_item(parts, at, part)), "config")

    def test_many_ins_and_outs(self):
        fabric = ("fabric", 12, 12, 8, 1)
        ends = [(x, 0, 0, track) for x in range(12) for track in range(8)]
        settings = [empty(fabric) for _ in range(144)]
        self.assertIsNone(place_of(("config", fabric, settings, ends[:64], ends[:64])))
        self.assertEqual(place_of(("config", fabric, settings, ends[:65], [])), "config")
        self.assertEqual(place_of(("config", fabric, settings, [], ends[:65])), "config")
        self.assertEqual(place_of(("config", None, None, [None] * 64, [None] * 64)), "config")
        self.assertEqual(place_of(("config", None, [], [None] * 64, [None] * 64)), "fabric")
        self.assertEqual(place_of(("config", None, [], [None] * 65, [])), "config")
        self.assertEqual(place_of(("config", None, [], [], [None] * 65)), "config")

    def test_fabric(self):
        for value in (None, True, 1, "fabric", list(FABRIC), (), FABRIC[:4], FABRIC + (1,), ("Fabric", 3, 2, 2, 2),
                      (None, 3, 2, 2, 2), ("config", 3, 2, 2, 2)):
            self.assertEqual(place_of(with_item(self.config, 1, value)), "fabric")
        for at, most in ((1, 12), (2, 12), (3, 8), (4, 4)):
            for number in (0, -1, most + 1, 1000, None, True, False, "2", [2], (2,), ()):
                self.assertEqual(place_of(with_item(self.config, 1, with_item(FABRIC, at, number))), "fabric")
            for number in (1, most):
                fabric = with_item(FABRIC, at, number)
                settings = [empty(fabric) for _ in range(fabric[1] * fabric[2])]
                self.assertIsNone(place_of(("config", fabric, settings, [], [])))

    def test_settings(self):
        settings = self.config[2]
        for made in ([], settings[:5], settings + settings[:1], [None] * 7):
            self.assertEqual(place_of(with_item(self.config, 2, made)), "settings")

    def test_parts_of_settings(self):
        good = empty(FABRIC)
        for number in range(6):
            for value in (None, True, 0, [], (), "setting", list(good), good[:5], good + (0,), ("Setting", *good[1:]),
                          (None, *good[1:]), ("config", *good[1:])):
                self.assertEqual(place_of(self.with_setting(number, value)), f"setting {number}")
        for at, most in ((1, 15), (2, 1), (3, 1)):
            for number in (0, 1, most):
                self.assertIsNone(place_of(self.with_setting(2, with_item(good, at, number))))
            for number in (-1, most + 1, 10 ** 9, None, True, False, "0", [0], (0,)):
                self.assertEqual(place_of(self.with_setting(2, with_item(good, at, number))), "setting 2")

    def test_tables_of_all_pins(self):
        for pins in range(1, 5):
            fabric = ("fabric", 1, 1, 1, pins)
            most = 2 ** 2 ** pins - 1
            for table, place in ((0, None), (most, None), (most + 1, "setting 0"), (-1, "setting 0")):
                setting = with_item(empty(fabric), 1, table)
                self.assertEqual(place_of(("config", fabric, [setting], [], [])), place)

    def test_codes(self):
        good = empty(FABRIC)
        for at, most in ((4, 9), (5, 5)):
            for codes in (None, (), tuple(good[at]), good[at][:-1], good[at] + [0], [], {}, "00"):
                self.assertEqual(place_of(self.with_setting(5, with_item(good, at, codes))), "setting 5")
            for k in range(len(good[at])):
                for code in (-1, most + 1, 100, None, True, False, "1", [1], (1,)):
                    codes = with_item(good[at], k, code)
                    self.assertEqual(place_of(self.with_setting(5, with_item(good, at, codes))), "setting 5")
                for code in (0, 1, 2, most):
                    codes = with_item(good[at], k, code)
                    self.assertIsNone(place_of(self.with_setting(5, with_item(good, at, codes))))
        for tracks in range(1, 9):
            fabric = ("fabric", 1, 1, tracks, 1)
            for code, place in ((1 + 4 * tracks, None), (2 + 4 * tracks, "setting 0")):
                setting = with_item(empty(fabric), 4, [code])
                self.assertEqual(place_of(("config", fabric, [setting], [], [])), place)

    def test_ins_and_outs(self):
        wrong = [None, True, 0, "in", (), [], [0, 0, 0, 0], (0, 0, 0), (0, 0, 0, 0, 0), (3, 0, 1, 0), (0, 2, 2, 0),
                 (-1, 0, 3, 0), (0, -1, 0, 0), (0, 0, 4, 0), (0, 0, -1, 0), (0, 0, 0, 2), (0, 0, 0, -1), (0, 0, 1, 0),
                 (0, 0, 2, 0), (1, 0, 1, 0), (1, 0, 3, 0), (1, 1, 0, 0), (False, 0, 0, 0), (0, 0, 0, True),
                 (0, 0, False, 0), (None, 0, 0, 0), (0, "0", 0, 0), (0, 0, [0], 0), (0, 0, 0, (0,)), (100, 0, 0, 0),
                 ("in", 0, 0, 0)]
        for at, word in ((3, "in"), (4, "out")):
            for k in range(len(self.config[at])):
                for value in wrong:
                    ends = with_item(self.config[at], k, value)
                    self.assertEqual(place_of(with_item(self.config, at, ends)), f"{word} {k}")
            for value in ((0, 0, 0, 1), (2, 0, 1, 0), (2, 1, 2, 1), (0, 1, 3, 0), (1, 0, 0, 1)):
                self.assertIsNone(place_of(with_item(self.config, at, with_item(self.config[at], 1, value))))
            twice = self.config[at] + [self.config[at][1], self.config[at][0]]
            self.assertEqual(place_of(with_item(self.config, at, twice)), f"{word} {len(self.config[at])}")

    def test_the_first_of_several(self):
        wrong = ("config", None, [None], [None], [None])
        self.assertEqual(place_of(wrong[:4]), "config")
        self.assertEqual(place_of(wrong), "fabric")
        wrong = with_item(wrong, 1, FABRIC)
        self.assertEqual(place_of(wrong), "settings")
        settings = [empty(FABRIC), None, None, empty(FABRIC), empty(FABRIC), empty(FABRIC)]
        wrong = with_item(wrong, 2, settings)
        self.assertEqual(place_of(wrong), "setting 1")
        wrong = with_item(wrong, 2, self.config[2])
        self.assertEqual(place_of(wrong), "in 0")
        wrong = with_item(wrong, 3, [(0, 0, 0, 0), (0, 0, 0, 0), None])
        self.assertEqual(place_of(wrong), "in 1")
        wrong = with_item(wrong, 3, [])
        self.assertEqual(place_of(wrong), "out 0")
        self.assertIsNone(place_of(with_item(wrong, 4, [])))

    def test_nothing_is_modified(self):
        kept = copy.deepcopy(self.config)
        check(self.config)
        self.assertEqual(self.config, kept)


if __name__ == "__main__":
    unittest.main()
