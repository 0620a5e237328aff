"""Section The whole road (points 25.1 to 25.4), points 0.2 and 0.5, and road.py of the interface."""

import unittest
from random import Random

from calling import called, is_false, is_true, with_item
from cellcloth.bits import bits_of
from cellcloth.elaborate import flat
from cellcloth.errors import BitsError, ClothError, FitError, KindError, LimitError, LoopError
from cellcloth.gates import bits_in, blast, words_out
from cellcloth.meaning import run
from cellcloth.nets import step
from cellcloth.parsing import parse
from cellcloth.road import agree, road, shown
from cellcloth.sweep import swept
from cellcloth.walk import Walk
from cellcloth import device
from making import made, rows_for
from netmaking import all_rows, made_net, small_nets
from roadmaking import KEYS, STEPS, TEXTS, chain, described, description_of

GREAT = ("fabric", 12, 12, 1, 4)


def error_of(description, fabric):
    """The name of an error and what it tells, or None."""
    try:
        road(description, fabric)
    except ClothError as error:
        told = getattr(error, "kind", None) or getattr(error, "place", None) or getattr(error, "places", None)
        return type(error), told
    return None


def agree_by_trying(net, other):
    if (net[1], net[2], len(net[5])) != (other[1], other[2], len(other[5])):
        return False
    return all(step(net, state, bits) == step(other, state, bits) for state, bits in all_rows(net))


class RoadTest(unittest.TestCase):
    def check(self, description, fabric, seed=0):
        told = called(self, road, description, fabric)
        self.assertEqual(list(told), ["description", "fabric"] + KEYS)
        self.assertEqual((told["description"], told["fabric"], told["flat"]), (description, fabric, flat(description)))
        for key, step_of in STEPS.items():
            self.assertEqual(told[key], step_of(told), key)
        rows = rows_for(seed, told["flat"][1], 25)
        meant = run(told["flat"], rows)
        self.assertEqual(shown(told, rows), meant)
        walk = Walk(description)
        self.assertEqual(meant, [walk.cycle(words) for words in rows])
        bits = device.run(told["bits"], [bits_in(told["flat"], words) for words in rows])
        self.assertEqual([words_out(told["flat"], row) for row in bits], meant)
        return told

    def test_example(self):
        text = "part c() { in e: 1; reg n: 2 from 0 = choose(e, (n + word(1, 2)), n); out s: 2 = n; } top c();"
        made_road = road(parse(text), ("fabric", 3, 3, 1, 2))
        self.assertEqual(called(self, shown, made_road, [[1], [1], [0], [1], [1]]), [[0], [1], [2], [2], [3]])

    def test_each_text_for_each_number_of_pins(self):
        for name in TEXTS:
            for pins in (2, 3, 4):
                told = self.check(described(name), ("fabric", 9, 7, 3, pins))
                most = max([len(sources) for _, sources, _, _, _ in told["cells"][2]] + [0])
                self.assertLessEqual(most, pins)

    def test_made_descriptions(self):
        count = 0
        for seed in range(25):
            description = made(seed)
            if error_of(description, with_item(GREAT, 4, 2 + seed % 3)) is None:
                self.check(description, with_item(GREAT, 4, 2 + seed % 3), seed)
                count += 1
        self.assertGreater(count, 20)

    def test_nothing(self):
        told = self.check(description_of(""), ("fabric", 1, 1, 1, 2))
        self.assertEqual(told["cells"], ("cells", 0, [], []))
        self.assertEqual(shown(told, [[], []]), [[], []])

    def test_more_pins_than_four_count_as_four(self):
        """Fabrics of more pins are none, but callers may go somewhat beyond."""
        told = road(described("sum"), ("fabric", 8, 8, 1, 5))
        self.assertEqual(told["covered"], road(described("sum"), ("fabric", 8, 8, 1, 4))["covered"])


class ShownTest(unittest.TestCase):
    def setUp(self):
        self.made = road(described("sum"), ("fabric", 5, 4, 1, 3))
        self.rows = rows_for(3, self.made["flat"][1], 12)

    def error(self, bits, rows):
        try:
            shown({**self.made, "bits": bits}, rows)
        except BitsError as error:
            return error.at
        except LoopError as error:
            return error.places
        return None

    def test_other_bits(self):
        config = self.made["routed"][0]
        at = [k for k, setting in enumerate(config[2]) if setting[1]][0]
        turned = with_item(config[2][at], 1, config[2][at][1] ^ 255)
        other = bits_of(with_item(config, 2, with_item(config[2], at, turned)))
        told = called(self, shown, {**self.made, "bits": other}, self.rows)
        self.assertNotEqual(told, shown(self.made, self.rows))
        circuit = self.made["flat"]
        expected = device.run(other, [bits_in(circuit, words) for words in self.rows])
        self.assertEqual(told, [words_out(circuit, row) for row in expected])

    def test_no_rows(self):
        self.assertEqual(called(self, shown, self.made, []), [])

    def test_wrong_bits(self):
        bits = self.made["bits"]
        circle = with_item(self.made["routed"][0], 2, [("setting", 0, 0, 0, [1, 0, 0], [0] * len(setting[5]))
                                                       for setting in self.made["routed"][0][2]])
        for rows in ([], self.rows):
            self.assertEqual(self.error(bits[:-1], rows), len(bits) - 1)
            self.assertEqual(self.error([], rows), 0)
            self.assertEqual(self.error(with_item(bits, 60, 1 - bits[60]), rows), len(bits) - 16)
            self.assertEqual(self.error(bits_of(circle), rows), list(range(20)))
            self.assertIsNone(self.error(bits, rows))


class ErrorTest(unittest.TestCase):
    SMALL = ("fabric", 1, 1, 1, 2)

    def test_errors_of_flat(self):
        for text, error in (("out s: 1 = x; let x: 1 = not(x);", (LoopError, ["x"])),
                            ("out s: 1 = y;", (KindError, "s")), ("in a: 99;", (KindError, "a")),
                            (" ".join(f"in a{k}: 13;" for k in range(5)), (LimitError, "inputs")),
                            ("mem m: 13 of 5 { }", (LimitError, "state")),
                            (" ".join(f"out s{k}: 13 = word(0, 13);" for k in range(5)), (LimitError, "outputs"))):
            for fabric in (GREAT, ("fabric", 1, 1, 1, 1)):
                self.assertEqual(error_of(description_of(text), fabric), error)

    # More than 200 gates, also when they have been swept.
    MANY = "in a: 9; in b: 9; reg r: 9 from 0 = ((a * b) ^ (r * a)); out s: 9 = r;"

    def test_gates(self):
        for pins in (1, 2, 4):
            self.assertEqual(error_of(description_of(self.MANY), ("fabric", 1, 1, 1, pins)), (LimitError, "gates"))
        # Equal products of wide words are seen as equal, whichever word stands first.
        text = "in a: 9; in b: 9; out s: 9 = (a * b); out t: 9 = (b * a);"
        self.assertEqual(error_of(description_of(text), GREAT), (LimitError, "gates"))
        # The net of the circuit may have more, as long as the swept one has not.
        description = description_of("in a: 15; in b: 15; let x: 15 = (a - b); let y: 15 = not((not(a) + b));"
                                     "out s: 15 = choose(any((x ^ y)), y, x);")
        self.assertGreater(len(blast(flat(description))[3]), 250)
        self.assertIsNone(error_of(description, GREAT))

    def test_two_hundred_gates(self):
        for gates, error in ((199, None), (200, None), (201, (LimitError, "gates")), (202, (LimitError, "gates"))):
            description = description_of(chain(gates))
            self.assertEqual(len(swept(blast(flat(description)))[0][3]), gates)
            self.assertEqual(error_of(description, GREAT), error)

    def test_fit(self):
        self.assertEqual(error_of(described("sum"), ("fabric", 9, 9, 1, 1)), (FitError, "pins"))
        self.assertEqual(error_of(described("sum"), self.SMALL), (FitError, "cells"))
        self.assertEqual(error_of(description_of("in a: 5; out s: 1 = word(0, 1);"), self.SMALL), (FitError, "ins"))
        self.assertEqual(error_of(description_of("out s: 5 = word(0, 5);"), self.SMALL), (FitError, "outs"))
        self.assertEqual(error_of(description_of("in a: 5; out s: 5 = word(0, 5);"), self.SMALL), (FitError, "ins"))
        # One pin is told first, whatever else does not fit, and whether a table has two sources or not.
        self.assertEqual(error_of(description_of("in a: 5; out s: 5 = a;"), ("fabric", 1, 1, 1, 1)), (FitError, "pins"))
        self.assertEqual(error_of(description_of("out s: 1 = word(0, 1);"), ("fabric", 9, 9, 1, 1)), (FitError, "pins"))

    def test_tracks(self):
        """Twelve cells in one row of places, whose sources lie on both sides of them: too many wires in its middle."""
        random = Random(97)
        random.choice((0, 1))
        bits = [f"cut({'a' if k < 13 else 'b'}, {k % 13}, 1)" for k in range(26)]
        lines = ["in a: 13; in b: 13;"]
        for at in range(12):
            sources = [f"r{(at + by) % 12}" for by in random.sample(range(1, 12), 1)]
            sources += [bits[k] for k in random.sample(range(26), 3)]
            random.shuffle(sources)
            lines.append("reg r{}: 1 from 0 = (({} & {}) ^ ({} & {}));".format(at, *sources))
        lines.append("out s: 12 = join(" + ", ".join(f"r{at}" for at in range(12)) + ");")
        lines.append("out t: 13 = join(" + ", ".join(f"r{random.randrange(12)}" for _ in range(13)) + ");")
        description = description_of(" ".join(lines))
        self.assertEqual(error_of(description, ("fabric", 12, 1, 1, 4)), (LimitError, "tracks"))
        self.assertIsNone(error_of(description, ("fabric", 12, 2, 1, 4)))


class AgreeTest(unittest.TestCase):
    def test_against_trying_all(self):
        count = 0
        for seed, net in enumerate(small_nets(150)):
            random = Random(seed)
            others = [net, swept(net)[0], made_net(seed + 1, net[1], len(net[2]), 10, len(net[5]))]
            if net[4]:
                at = random.randrange(len(net[4]))
                others.append(with_item(net, 4, with_item(net[4], at, net[4][at] ^ 1)))
            if net[5]:
                at = random.randrange(len(net[5]))
                others.append(with_item(net, 5, with_item(net[5], at, random.randrange(2 + 2 * net[1]))))
            for other in others:
                other = with_item(other, 2, net[2])
                self.assertIs(called(self, agree, net, other), agree_by_trying(net, other))
                count += agree(net, other)
        self.assertGreater(count, 300)

    def test_other_numbers(self):
        net = ("net", 2, [0, 1], [], [2, 4], [6])
        is_true(self, agree, net, net)
        for at, worth in ((1, 1), (1, 3), (2, [0, 0]), (2, [1, 1]), (5, []), (5, [6, 6]), (5, [7]), (4, [2, 5]), (4, [4, 2])):
            other = with_item(net, at, worth)
            is_false(self, agree, net, other)
            is_false(self, agree, other, net)
        is_false(self, agree, net, ("net", 2, [0, 1, 0], [], [2, 4, 6], [6]))
        is_true(self, agree, ("net", 0, [], [], [], []), ("net", 0, [], [], [], []))
        is_false(self, agree, ("net", 0, [], [], [], [0]), ("net", 0, [], [], [], [1]))

    def test_states_that_do_not_come_about_count(self):
        one = ("net", 0, [0, 0], [(2, 4)], [2, 4], [6])
        is_false(self, agree, one, with_item(one, 5, [0]))

    def test_many_inputs(self):
        for text, other, expected in (("((a + b) + d)", "(a + (d + b))", True), ("((a + b) - d)", "((a - d) + b)", True),
                                      ("(a & (b | d))", "((a & b) | (a & d))", True),
                                      ("((a + b) + d)", "((a + b) | d)", False)):
            nets = [blast(flat(description_of("in a: 12; in b: 12; in d: 12; out s: 12 = " + x + ";")))
                    for x in (text, other)]
            self.assertIs(agree(*nets), expected)
        # They differ in a single case of very many.
        nets = [blast(flat(description_of(f"in a: 16; in b: 16; out s: 1 = {x};"))) for x in (
            "all((a & b))", "word(0, 1)", "((a == word(65535, 16)) & (b == word(-1, 16)))")]
        is_false(self, agree, nets[0], nets[1])
        is_true(self, agree, nets[0], nets[2])


if __name__ == "__main__":
    unittest.main()
