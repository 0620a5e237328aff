"""Section The audit (points 26.1 and 26.2) and audit.py of the interface."""

import unittest
from random import Random

from calling import called, with_item
from cellcloth.assign import assigned
from cellcloth.audit import audit
from cellcloth.cover import cut_bits
from cellcloth.elaborate import flat
from cellcloth.fabric import borders
from cellcloth.nets import needed
from cellcloth.parsing import parse
from cellcloth.retime import moved, origin, period, retimed_right
from cellcloth.road import agree, road
from cellcloth.route import _config, _masks, _with_tracks, clauses_of, keeps_apart, routed_right
from cellcloth.solver import solve
from making import made
from netmaking import small_nets
from roadmaking import KEYS, STEPS, TEXTS, chain, described, description_of, remade

FABRIC = ("fabric", 7, 6, 2, 4)
DOSSIERS = {}


def dossier_of(name):
    """The dossier of a text, made once."""
    if name not in DOSSIERS:
        DOSSIERS[name] = road(described(name), FABRIC)
    return DOSSIERS[name]


class Audit(unittest.TestCase):
    def right(self, dossier):
        self.assertIsNone(called(self, audit, dossier))

    def wrong(self, key, dossier):
        self.assertEqual(called(self, audit, dossier), key)


class RightTest(Audit):
    def test_example(self):
        told = road(parse("part c() { in a: 1; out s: 1 = not(a); } top c();"), ("fabric", 2, 1, 1, 2))
        self.right(told)
        self.wrong("bits", {**told, "bits": told["bits"][:-1]})

    def test_what_road_makes(self):
        for name in TEXTS:
            for pins in (2, 3, 4):
                self.right(road(described(name), with_item(("fabric", 9, 7, 3, 4), 4, pins)))
        self.right(road(description_of(""), ("fabric", 1, 1, 1, 2)))
        for seed in range(12):
            try:
                told = road(made(seed), ("fabric", 12, 12, 1, 4))
            except ValueError:
                continue
            self.right(told)

    def test_other_tracks_of_the_fabric(self):
        """The number of tracks of the fabric does not matter to any step."""
        told = dossier_of("sum")
        for tracks in (1, 3, 8):
            self.right({**told, "fabric": with_item(FABRIC, 3, tracks)})
            self.assertEqual(road(told["description"], with_item(FABRIC, 3, tracks)), {**told, "fabric": with_item(FABRIC, 3, tracks)})


class OtherMakersTest(Audit):
    def test_other_gates(self):
        for name in TEXTS:
            told = dossier_of(name)
            word, ins, starts, gates, nexts, outs = told["net"]
            # The literals of gates the other way round; a gate more that nobody needs; outs by ways around.
            self.right(remade(told, "net", (word, ins, starts, [(b, a) for a, b in gates], nexts, outs)))
            self.right(remade(told, "net", (word, ins, starts, gates + [(1, 1), (0, 1)], nexts, outs)))
            last = 1 + ins + len(starts) + len(gates)
            more = [(literal ^ 1, 1) for literal in outs]
            turned = [2 * (last + k) + 1 for k in range(len(outs))]
            self.right(remade(told, "net", (word, ins, starts, gates + more, nexts, turned)))

    def test_other_swept_nets(self):
        for name in ("sum", "less", "memory"):
            told = dossier_of(name)
            (word, ins, starts, gates, nexts, outs), (images, rows) = told["swept"]
            turned = (word, ins, starts, [(b, a) for a, b in gates], nexts, outs)
            self.right(remade(told, "swept", (turned, (images, rows))))
            self.right(remade(told, "swept", (told["swept"][0], (images, rows[::-1] + rows))))

    def test_other_lags(self):
        """Lags that are all greater than they have to be, where this is allowed, and circles begun elsewhere."""
        count = 0
        for name in TEXTS:
            told = dossier_of(name)
            small = told["small"][0]
            other, (lags, circle) = told["retimed"]
            if circle is not None:
                for k in range(len(circle)):
                    self.right(remade(told, "retimed", (other, (lags, circle[k:] + circle[:k]))))
            for at in range(len(lags)):
                for by in (1, -1):
                    changed = with_item(lags, at, max(0, lags[at] + by))
                    if self.keeps_the_period(small, changed, period(small, lags)):
                        self.right(remade(told, "retimed", (moved(small, changed), (changed, circle))))
                        count += changed != lags
        self.assertGreater(count, 0)

    def keeps_the_period(self, net, lags, least):
        base = 1 + net[1] + len(net[2])
        for gate, pair in enumerate(net[3]):
            for literal in pair:
                told, weight, _ = origin(net, literal)
                if weight + (lags[told // 2 - base] if told // 2 >= base else 0) - lags[gate] < 0:
                    return False
        for literal in net[5]:
            told, weight, _ = origin(net, literal)
            if weight + (lags[told // 2 - base] if told // 2 >= base else 0) < 0:
                return False
        return period(net, lags) == least

    def test_other_coverings(self):
        """More tables than are needed, with the cuts of the gates' own literals where these are good enough."""
        count = 0
        for name in ("sum", "less", "machine", "memory"):
            told = dossier_of(name)
            net = told["last"][0]
            tables, (labels, ways) = told["covered"]
            base = 1 + net[1] + len(net[2])
            heights = [0] * base + labels
            covered_gates = {gate for gate, _, _ in tables}
            more = []
            for k, (a, b) in enumerate(net[3]):
                cut = sorted({a // 2, b // 2})
                if base + k not in covered_gates and all(heights[node] < labels[k] for node in cut):
                    if all(node < base or node in covered_gates for node in cut):
                        more.append((base + k, cut, cut_bits(net, base + k, cut)))
            if more:
                self.right(remade(told, "covered", (sorted(tables + more), (labels, ways))))
                count += 1
        self.assertGreater(count, 0)

    def test_other_plans(self):
        for name in ("sum", "moved", "plain"):
            told = dossier_of(name)
            _, spots, ins, outs, potentials = told["plan"]
            wide = FABRIC[1]
            sides = borders(FABRIC)
            turns = (0, 3, 2, 1)
            # All as in a mirror.
            mirrored = [(wide - 1 - x, y) for x, y in spots]
            in_sides, out_sides = [[(wide - 1 - x, y, turns[side]) for x, y, side in rows] for rows in (ins, outs)]
            order = [sides.index((wide - 1 - x, y, turns[side])) for x, y, side in sides]
            other = [(of_rows, [of_columns[at] for at in order] if of_columns else []) for of_rows, of_columns in potentials]
            self.right(remade(told, "plan", ("plan", mirrored, in_sides, out_sides, other)))
            # Other potentials alone: those of the inputs made once more.
            users = [[spot for spot, row in zip(spots, told["cells"][2]) if ("pad", k) in row[1]] for k in range(told["cells"][1])]
            costs = [[sum(abs(x - a) + abs(y - b) for a, b in spots_of) for x, y, _ in sides] for spots_of in users]
            columns, again = assigned(costs)
            self.assertEqual(sum(row[at] for row, at in zip(costs, columns)), sum(again[0]) + sum(again[1]))
            self.right(remade(told, "plan", ("plan", spots, ins, outs, [again, potentials[1]])))

    def test_other_routings(self):
        count = 0
        for name in TEXTS:
            told = dossier_of(name)
            cells, plan = told["cells"], told["plan"]
            config, (word, shapes, tracks, proof) = told["routed"]
            many = config[1][3]
            clauses, last = clauses_of(cells, plan, many)
            # Every other choice of the variables that keeps the clauses: here those that the solver finds with one more.
            for variable in range(1, last + 1, 5):
                answer, bits = solve(clauses + [[variable]], last)
                if answer == "yes":
                    chosen = self.chosen(bits, variable, len(shapes), many)
                    other = self.config_for(cells, told["fabric"], plan, chosen, many)
                    if other is not None:
                        paper = (word, [shape for shape, _ in chosen], [track for _, track in chosen], proof)
                        self.assertTrue(routed_right(cells, told["fabric"], plan, other, paper))
                        self.right(remade(told, "routed", (other, paper)))
                        count += other != config
            if many > 1:
                longer = [[1, -1]] + proof
                self.right(remade(told, "routed", (config, (word, shapes, tracks, longer))))
        self.assertGreater(count, 5)

    def chosen(self, bits, variable, many_sources, tracks):
        """A shape and a track for each source, by the bits; for that of the variable this one."""
        chosen = []
        at = 0
        for source in range(many_sources):
            wide = min(source + 1, tracks)
            mine = [k for k in range(2 * wide) if bits[at + k]]
            here = [k for k in mine if at + k + 1 == variable] or mine
            chosen.append((here[0] // wide, here[0] % wide))
            at += 2 * wide
        return chosen

    def config_for(self, cells, fabric, plan, chosen, tracks):
        """The config of a routing, from the module's own one by the words of point 19.6; None if it is not kept apart."""
        shapes, numbers = [shape for shape, _ in chosen], [track for _, track in chosen]
        if not keeps_apart(_masks(cells, plan), shapes, numbers, tracks):
            return None
        return _config(cells, _with_tracks(fabric, tracks), plan, shapes, numbers)


class WrongTest(Audit):
    def test_flat(self):
        told = dossier_of("sum")
        circuit = told["flat"]
        for at in range(1, 6):
            if circuit[at]:
                self.wrong("flat", remade(told, "flat", with_item(circuit, at, circuit[at][:-1])) if at == 5 else
                           {**told, "flat": with_item(circuit, at, circuit[at][:-1])})
        self.wrong("flat", remade(told, "flat", with_item(circuit, 2, [with_item(circuit[2][0], 2, 4)])))
        # The flat circuit of another description, with all behind it made from that.
        self.wrong("flat", {**road(described("less"), FABRIC), "description": told["description"]})
        # Circuits that mean the same count as others, too.
        other = description_of(TEXTS["sum"].replace("(r + a)", "(a + r)"))
        self.wrong("flat", {**road(other, FABRIC), "description": told["description"]})

    def test_descriptions_without_a_flat_circuit(self):
        told = dossier_of("sum")
        for text in ("out s: 1 = x; let x: 1 = not(x);", "out s: 1 = y;", "in a: 99;", "in a: (1 div 0);",
                     " ".join(f"in a{k}: 13;" for k in range(5)), "rows i from 0 to 9999 { }"):
            self.wrong("flat", {**told, "description": description_of(text)})
        self.wrong("flat", {**told, "description": with_item(told["description"], 2, "d")})

    def test_net(self):
        told = dossier_of("sum")
        net = told["net"]
        word, ins, starts, gates, nexts, outs = net
        wrongs = [with_item(net, 1, ins + 1), with_item(net, 1, ins - 1), with_item(net, 1, -1), with_item(net, 2, starts[:-1]),
                  with_item(net, 2, [1 - starts[0]] + starts[1:]), with_item(net, 2, [2] + starts[1:]), with_item(net, 3, gates[:-1]),
                  with_item(net, 4, nexts[:-1]), with_item(net, 4, nexts[::-1]), with_item(net, 4, nexts + [0]),
                  with_item(net, 5, outs[:-1]), with_item(net, 5, outs + [0]), with_item(net, 5, []), with_item(net, 5, outs[::-1]),
                  with_item(net, 3, with_item(gates, 3, (-1, 2))), with_item(net, 3, with_item(gates, 3, (2, 9999))),
                  with_item(net, 4, with_item(nexts, 0, -2)), with_item(net, 5, with_item(outs, 0, 10 ** 30))]
        for wrong in wrongs:
            self.wrong("net", {**told, "net": wrong})
        for at, literal in enumerate(nexts):
            self.wrong("net", remade(told, "net", with_item(net, 4, with_item(nexts, at, literal ^ 1))))
        for at, literal in enumerate(outs):
            self.wrong("net", remade(told, "net", with_item(net, 5, with_item(outs, at, literal ^ 1))))
        count = 0
        for at, (a, b) in enumerate(gates):
            other = with_item(net, 3, with_item(gates, at, (a ^ 1, b)))
            if not agree(net, other):
                self.wrong("net", remade(told, "net", other))
                count += 1
        self.assertGreater(count, 10)

    def test_tidied_nets(self):
        for name in ("sum", "moved"):
            told = dossier_of(name)
            for key in ("tidy", "small", "last"):
                net, flops = told[key]
                self.wrong(key, {**told, key: (net, flops[:-1])})
                self.wrong(key, {**told, key: (net, flops + [99])})
                # A gate that nobody needs, and gates with their literals the other way round.
                self.wrong(key, remade(told, key, (with_item(net, 3, net[3] + [(2, 4)]), flops)))
                turned = with_item(net, 3, [(b, a) for a, b in net[3]])
                self.wrong(key, {**told, key: (turned, flops)})
                self.wrong(key, {**told, key: (with_item(net, 5, net[5][::-1] + [0]), flops)})

    def test_swept(self):
        for name in ("sum", "moved", "less"):
            told = dossier_of(name)
            net, (images, rows) = told["swept"]
            wrongs = [(net, (images[:-1], rows)), (net, (images + images[:1], rows)), (net, (images, [])), (net, (images, rows[:1])),
                      (with_item(net, 5, net[5] + [0]), (images, rows)), (with_item(net, 3, net[3][:-1]), (images, rows)),
                      (with_item(net, 1, net[1] + 1), (images, rows)), (with_item(net, 3, [(-5, 3)]), (images, rows)),
                      (with_item(net, 2, net[2] + [0]), (images, rows)), (net, (images[::-1], rows))]
            for wrong in wrongs:
                self.wrong("swept", {**told, "swept": wrong})
            for at in range(0, len(images), 3):
                for literal, proof in ((images[at][0] ^ 1, None), (images[at][0], [[]]), (images[at][0] ^ 1, [[]]), (-1, None),
                                       (10 ** 9, None)):
                    self.wrong("swept", {**told, "swept": (net, (with_item(images, at, (literal, proof)), rows))})
            for at in range(len(net[5])):
                other = with_item(net, 5, with_item(net[5], at, net[5][at] ^ 1))
                self.wrong("swept", remade(told, "swept", (other, (images, rows))))
        # A net that is not swept: all of it stands for itself, but two of its nodes agree.
        text = "in a: 1; in b: 1; in d: 1; out s: 1 = ((a & b) & d); out t: 1 = (a & (b & d));"
        told = road(description_of(text), FABRIC)
        tidy = told["tidy"][0]
        self.assertEqual(len(tidy[3]), 4)
        images = [(2 * (4 + k), None) for k in range(4)]
        rows = [([], [k & 1, k >> 1 & 1, k >> 2]) for k in range(8)]
        self.wrong("swept", remade(told, "swept", (tidy, (images, rows))))

    def test_retimed(self):
        for name in ("sum", "moved", "machine"):
            told = dossier_of(name)
            net, (lags, circle) = told["retimed"]
            wrongs = [(net, (lags[:-1], circle)), (net, (lags + [0], circle)), (net, (with_item(lags, 0, -1), circle)),
                      (net, (with_item(lags, 0, 50), circle)), (with_item(net, 4, net[4] + [0]), (lags, circle)),
                      (with_item(net, 5, [literal ^ 1 for literal in net[5]]), (lags, circle))]
            if circle is not None:
                wrongs += [(net, (lags, None)), (net, (lags, [])), (net, (lags, circle[:-1])), (net, (lags, circle[::-1] + circle[:1])),
                           (net, (lags, [("zero", 0)])), (net, (lags, [("wire", 10 ** 9, 0)])), (net, (lags, [("path", [], [])]))]
            else:
                wrongs += [(net, (lags, []))]
            for wrong in wrongs:
                self.wrong("retimed", {**told, "retimed": wrong})

    def test_lags_of_a_greater_period(self):
        text = "in a: 2; reg p: 2 from 1 = a; reg q: 2 from 2 = p; out s: 2 = ((q * q) + (q ^ p));"
        told = road(description_of(text), FABRIC)
        small = told["small"][0]
        _, (lags, circle) = told["retimed"]
        zeros = [0] * len(small[3])
        self.assertGreater(period(small, zeros), period(small, lags))
        for paper in ((zeros, circle), (zeros, None)):
            self.wrong("retimed", remade(told, "retimed", (moved(small, zeros), paper)))

    def test_more_than_two_hundred_gates(self):
        text = "in a: 9; in b: 9; reg r: 9 from 0 = ((a * b) ^ (r * a)); out s: 9 = r;"
        told = self.first_steps({**dossier_of("sum"), "description": description_of(text)})
        self.assertGreater(len(told["small"][0][3]), 200)
        self.wrong("retimed", told)
        # Just as many, and one more with a paper that is right but for that.
        self.right(road(description_of(chain(200)), ("fabric", 12, 12, 1, 4)))
        told = self.first_steps({**dossier_of("sum"), "description": description_of(chain(201))})
        told["retimed"] = STEPS["retimed"](told)
        self.assertTrue(retimed_right(told["small"][0], *told["retimed"]))
        self.wrong("retimed", told)

    def first_steps(self, told):
        """The steps up to `small` of the description, with those of something else behind."""
        told["flat"] = flat(told["description"])
        for key in ("net", "tidy", "swept", "small"):
            told[key] = STEPS[key](told)
        return told

    def test_covered(self):
        for name in ("sum", "less", "machine"):
            told = dossier_of(name)
            net = told["last"][0]
            tables, (labels, ways) = told["covered"]
            gate, cut, bits = tables[-1]
            wrongs = [(tables[:-1], (labels, ways)), (tables + tables[-1:], (labels, ways)), (tables[::-1], (labels, ways)),
                      (tables[:-1] + [(gate, cut, bits ^ 1)], (labels, ways)), (tables[:-1] + [(gate, cut[:-1], bits)], (labels, ways)),
                      (tables[:-1] + [(gate, cut, -1)], (labels, ways)), (tables[:-1] + [(gate, [0] + cut, bits)], (labels, ways)),
                      (tables[:-1] + [(10 ** 9, cut, bits)], (labels, ways)), (tables, ([], [])), (tables, (labels[:-1], ways)),
                      (tables, (labels, ways[:-1])), (tables, ([label + 1 for label in labels], ways)), ([], (labels, ways)),
                      (tables, (labels, [None] * len(ways))) if max(labels) > 1 else (tables, ([2] * len(labels), ways))]
            for wrong in wrongs:
                self.wrong("covered", {**told, "covered": wrong})
            # A covering by the gates' own literals alone is deeper.
            base = 1 + net[1] + len(net[2])
            plain = [(base + k, sorted({a // 2, b // 2})) for k, (a, b) in enumerate(net[3])]
            plain = [(node, own, cut_bits(net, node, own)) for node, own in plain if node in needed(net, net[4] + net[5])]
            self.wrong("covered", remade(told, "covered", (plain, (labels, ways))))

    def test_fabrics_of_one_pin_and_of_others(self):
        told = dossier_of("sum")
        self.wrong("covered", {**told, "fabric": with_item(FABRIC, 4, 1)})
        self.wrong("covered", {**told, "fabric": with_item(FABRIC, 4, 2)})
        plain = dossier_of("nothing")
        self.wrong("covered", {**plain, "fabric": with_item(FABRIC, 4, 1)})
        # A paper for more nodes in a cut is another one.
        self.wrong("covered", {**road(described("sum"), with_item(FABRIC, 4, 3)), "fabric": FABRIC})

    def test_cells(self):
        for name in ("sum", "plain", "machine"):
            told = dossier_of(name)
            word, ins, rows, outs = told["cells"]
            for wrong in ((word, ins + 1, rows, outs), (word, ins, rows[:-1], outs), (word, ins, rows, outs[::-1] + [("none",)]),
                          (word, ins, rows + rows[-1:], outs), (word, ins, rows, outs[:-1]),
                          (word, ins, with_item(rows, 0, with_item(rows[0], 2, rows[0][2] ^ 1)), outs),
                          (word, ins, with_item(rows, 0, with_item(rows[0], 2, -9)), outs),
                          (word, ins, with_item(rows, 0, with_item(rows[0], 1, [("cell", 10 ** 9)])), outs)):
                self.wrong("cells", {**told, "cells": wrong})
            self.wrong("cells", remade(told, "cells", (word, ins, rows + [("cell", [], 1, 0, 0)], outs)))

    def test_plan(self):
        told = dossier_of("sum")
        plan = told["plan"]
        word, spots, ins, outs, potentials = plan
        wrongs = [(word, spots[:-1], ins, outs, potentials), (word, spots[:-1] + spots[:1], ins, outs, potentials),
                  (word, with_item(spots, 0, (99, 0)), ins, outs, potentials), (word, with_item(spots, 0, (0,)), ins, outs, potentials),
                  (word, spots, ins[:-1], outs, potentials), (word, spots, ins[:-1] + ins[:1], outs, potentials),
                  (word, spots, with_item(ins, 0, (1, 1, 0)), outs, potentials), (word, spots, ins, outs + outs[:1], potentials),
                  (word, spots, ins, outs, potentials[:1]), (word, spots, ins, outs, potentials[::-1]), (word, spots, ins, outs, []),
                  (word, spots, ins, outs, [(potentials[0][0][:-1], potentials[0][1]), potentials[1]])]
        for wrong in wrongs:
            self.wrong("plan", {**told, "plan": wrong})
        random = Random(1)
        for _ in range(5):
            shuffled = random.sample(spots, len(spots))
            self.wrong("plan", remade(told, "plan", (word, shuffled, ins, outs, potentials)))
        # The outs at other border sides, which cost more.
        sides = [side for side in borders(FABRIC) if side not in outs]
        self.wrong("plan", remade(told, "plan", (word, spots, ins, sides[-len(outs):], potentials)))

    def test_fabrics_that_are_too_small(self):
        told = dossier_of("sum")
        for wide, high in ((1, 1), (2, 2), (12, 1)):
            self.wrong("plan", {**told, "fabric": ("fabric", wide, high, 2, 4)})
        # One that the cells fit, but for which the plan is another one.
        self.wrong("plan", {**told, "fabric": ("fabric", 7, 7, 2, 4)})

    def test_routed(self):
        for name in ("sum", "moved"):
            told = dossier_of(name)
            config, (word, shapes, tracks, proof) = told["routed"]
            _, fabric, settings, ins, outs = config
            wrongs = [(with_item(config, 1, with_item(fabric, 3, tracks)), told["routed"][1]) for tracks in (0, fabric[3] + 1, 9, -1)]
            wrongs += [(with_item(config, 2, settings[:-1]), told["routed"][1]), (with_item(config, 3, ins[::-1] + ins[:1]), told["routed"][1]),
                       (with_item(config, 4, outs[:-1]), told["routed"][1]), (config, (word, shapes[:-1], tracks, proof)),
                       (config, (word, shapes, tracks[:-1], proof)), (config, (word, shapes, [0] * len(tracks), proof)),
                       (config, (word, [1 - shape for shape in shapes], tracks, proof)), (config, (word, shapes, tracks, proof[:-1])),
                       (config, (word, shapes, with_item(tracks, 0, 1), proof)), (config, (word, with_item(shapes, 0, 2), tracks, proof)),
                       (config, (word, shapes, tracks, [[]] if not proof else []))]
            for wrong in wrongs:
                self.wrong("routed", {**told, "routed": wrong})
            for at, setting in enumerate(settings):
                for part in (1, 2, 3):
                    other = with_item(config, 2, with_item(settings, at, with_item(setting, part, 1 - min(1, setting[part]))))
                    self.wrong("routed", remade(told, "routed", (other, told["routed"][1])))

    def test_a_track_more_than_needed(self):
        """All of it stands on more tracks, with the proof of fewer."""
        for name in ("plain", "sum"):
            told = dossier_of(name)
            cells, plan = told["cells"], told["plan"]
            config, (word, shapes, tracks, proof) = told["routed"]
            more = _config(cells, _with_tracks(told["fabric"], config[1][3] + 1), plan, shapes, tracks)
            for other in (proof, [], [[]]):
                self.wrong("routed", remade(told, "routed", (more, (word, shapes, tracks, other))))

    def test_bits(self):
        told = dossier_of("sum")
        bits = told["bits"]
        for wrong in (bits[:-1], bits + [0], [], bits[::-1], with_item(bits, 0, 2), with_item(bits, 5, -bits[5] - 1)):
            self.wrong("bits", {**told, "bits": wrong})
        for at in range(0, len(bits), 17):
            self.wrong("bits", {**told, "bits": with_item(bits, at, 1 - bits[at])})
        self.wrong("bits", {**told, "bits": dossier_of("less")["bits"]})

    def test_the_first_wrong_key_is_told(self):
        """Each step is taken from something else; then all steps behind it, too."""
        told, other = dossier_of("sum"), dossier_of("moved")
        for at, key in enumerate(KEYS):
            self.wrong(key, {**told, key: other[key]})
            self.wrong(key, {**told, **{name: other[name] for name in KEYS[at:]}})
            self.wrong(key, {**told, **{name: other[name] for name in (key, KEYS[-1])}})

    def test_steps_that_are_made_from_the_wrong_ones(self):
        """A machine that tells something else by one gate: it is the step with that gate that is wrong."""
        told = dossier_of("moved")
        for key in ("net", "swept", "retimed"):
            worth = told[key]
            net = worth if key == "net" else worth[0]
            other = with_item(net, 5, [net[5][0] ^ 1] + net[5][1:])
            self.wrong(key, remade(told, key, other if key == "net" else with_item(worth, 0, other)))
        count = 0
        for net in small_nets(40):
            count += audit({**told, "net": net}) == "net"
        self.assertEqual(count, 40)


if __name__ == "__main__":
    unittest.main()
