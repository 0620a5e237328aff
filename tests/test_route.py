"""Section Trees and tracks (points 19.1 to 19.7) and route.py of the interface."""

import unittest
from itertools import product
from random import Random
from unittest.mock import patch

from calling import called, is_false, is_true, with_item
from cellcloth import tracks
from cellcloth.bits import bits_of
from cellcloth.cells import run_cells
from cellcloth.device import run
from cellcloth.errors import LimitError
from cellcloth.fabric import beside, borders, check, opposite, places_of
from cellcloth.place import placed
from cellcloth.route import clauses_of, routed, routed_right, tree, used
from cellcloth.solver import proof_right, solve
from cellmaking import any_plan, cases, made_cells
from netmaking import random_rows

NONE = ("none",)


def pad(at):
    return ("pad", at)


def cell(at):
    return ("cell", at)


def row(*sources, table=0, kept=0, start=0):
    return ("cell", list(sources), table, kept, start)


def own_of(plan, source):
    return plan[2][source[1]][:2] if source[0] == "pad" else plan[1][source[1]]


def ends_of(cells, plan, source):
    """Point 19.1: places, and border sides."""
    spots = [plan[1][j] for j, (_, sources, _, _, _) in enumerate(cells[2]) if source in sources and source != cell(j)]
    return spots + [side for side, told in zip(plan[3], cells[3]) if told == source]


def plain_tree(cells, plan, source, shape):
    """Point 19.2, step by step."""
    wires = set()
    for end in ends_of(cells, plan, source):
        here = own_of(plan, source)
        for axis in ((0, 1) if shape == 0 else (1, 0)):
            while here[axis] != end[axis]:
                up = end[axis] > here[axis]
                side = ((3, 1) if axis == 0 else (0, 2))[up]
                wires.add((*here, side))
                here = with_item(here, axis, here[axis] + (1 if up else -1))
        if len(end) == 3:
            wires.add(end)
    return sorted(wires)


def plain_used(cells, plan):
    sources = [pad(at) for at in range(cells[1])] + [cell(at) for at in range(len(cells[2]))]
    return [source for source in sources if ends_of(cells, plan, source)]


def plain_clauses(cells, plan, tracks):
    """Point 19.4, in its order."""
    sources = plain_used(cells, plan)
    numbers = {}
    for i in range(len(sources)):
        for shape in range(2):
            for track in range(min(i, tracks - 1) + 1):
                numbers[(i, shape, track)] = len(numbers) + 1
    clauses = [[number for (j, _, _), number in numbers.items() if j == i] for i in range(len(sources))]
    for i in range(len(sources)):
        for j in range(i + 1, len(sources)):
            for one, two in product(range(2), repeat=2):
                if set(plain_tree(cells, plan, sources[i], one)) & set(plain_tree(cells, plan, sources[j], two)):
                    for track in range(tracks):
                        if (i, one, track) in numbers and (j, two, track) in numbers:
                            clauses.append([-numbers[(i, one, track)], -numbers[(j, two, track)]])
    return clauses, len(numbers)


def least_by_trying(cells, plan):
    """The least number of tracks for which there are shapes and a numbering of tracks, whatever its order."""
    sources = plain_used(cells, plan)
    trees = [[set(plain_tree(cells, plan, source, shape)) for shape in range(2)] for source in sources]
    for many in range(1, len(sources) + 2):
        stack = [[set() for _ in range(many)]]
        if fits(trees, 0, stack[0]):
            return many


def fits(trees, at, taken):
    if at == len(trees):
        return True
    for wires in trees[at]:
        for track, others in enumerate(taken):
            if not others & wires and fits(trees, at + 1, with_item(taken, track, others | wires)):
                return True
    return False


def plain_config(cells, fabric, plan, many, shapes, tracks):
    """Point 19.6: for each place, what its tree wires and its cell ask for."""
    _, wide, high, _, pins = fabric
    sources = plain_used(cells, plan)
    trees = {source: plain_tree(cells, plan, source, shape) for source, shape in zip(sources, shapes)}
    track_of = dict(zip(sources, tracks))

    def entry(source, place):
        if place == own_of(plan, source):
            return plan[2][source[1]][2]
        return [opposite(side) for x, y, side in trees[source] if beside(fabric, x, y, side) == place][0]

    settings = []
    for place in places_of(fabric):
        table, kept, start, taps = 0, 0, 0, [0] * pins
        for j, (_, from_all, its_table, its_kept, its_start) in enumerate(cells[2]):
            if plan[1][j] == place:
                table, kept, start = its_table, its_kept, its_start
                for pin, source in enumerate(from_all):
                    if source == cell(j):
                        taps[pin] = 1
                    elif source != NONE:
                        taps[pin] = 2 + entry(source, place) * many + track_of[source]
        drives = [0] * (4 * many)
        for source in sources:
            for x, y, side in trees[source]:
                if (x, y) == place:
                    own = source[0] == "cell" and own_of(plan, source) == place
                    drives[side * many + track_of[source]] = 1 if own else 2 + entry(source, place)
        settings.append(("setting", table, kept, start, taps, drives))
    ins = [(*side, track_of.get(pad(at), 0)) for at, side in enumerate(plan[2])]
    outs = [(*side, track_of.get(source, 0)) for source, side in zip(cells[3], plan[3])]
    return ("config", ("fabric", wide, high, many, pins), settings, ins, outs)


def limit_of(cells, fabric, plan):
    try:
        routed(cells, fabric, plan)
    except LimitError as error:
        return error.kind
    return None


def crossing(many, extra=0):
    """Pads on the left of a row of places whose users are all on the right; further pads used where they are."""
    rows = [row(*[pad(at) for at in range(extra + k, extra + many, 3)]) for k in range(3)]
    rows += [row(*[pad(at) for at in range(k, extra, 3)]) for k in range(3)]
    cells = ("cells", extra + many, rows, [])
    ins = [(x, 1, 2) for x in range(extra)] + [(x, y, 3 * y) for x, y in ([(x, 0) for x in range(9)] + [(0, 1)])][:many]
    return cells, ("plan", [(9, 0), (10, 0), (11, 0), (0, 1), (1, 1), (2, 1)], ins, [], [])


class TreeTest(unittest.TestCase):
    CELLS = ("cells", 1, [("cell", [pad(0)], 2, 0, 0), ("cell", [cell(0)], 1, 1, 0)], [cell(1)])
    PLAN = ("plan", [(0, 0), (1, 1)], [(0, 0, 0)], [(1, 1, 1)], [([0], [0] * 8), ([0], [0] * 8)])

    def test_example(self):
        self.assertEqual(called(self, used, self.CELLS), [pad(0), cell(0), cell(1)])
        self.assertEqual(called(self, tree, self.CELLS, self.PLAN, cell(0), 0), [(0, 0, 1), (1, 0, 2)])
        self.assertEqual(called(self, tree, self.CELLS, self.PLAN, cell(0), 1), [(0, 0, 2), (0, 1, 1)])
        self.assertEqual(called(self, tree, self.CELLS, self.PLAN, pad(0), 0), [])
        self.assertEqual(called(self, clauses_of, self.CELLS, self.PLAN, 1), ([[1, 2], [3, 4], [5, 6]], 6))

    def test_used_sources(self):
        cells = ("cells", 4, [row(pad(3), NONE), row(cell(1)), row(cell(2), cell(3)), row(pad(1), cell(0))],
                 [NONE, pad(3), cell(2), pad(3)])
        self.assertEqual(called(self, used, cells), [pad(1), pad(3), cell(0), cell(2), cell(3)])
        # A cell that has itself as a source is used if an output has it, too.
        self.assertEqual(used(("cells", 0, [row(cell(0))], [])), [])
        self.assertEqual(used(("cells", 0, [row(cell(0))], [cell(0)])), [cell(0)])
        self.assertEqual(used(("cells", 2, [], [NONE])), [])
        self.assertEqual(used(("cells", 12, [], [pad(11), pad(2)])), [pad(2), pad(11)])

    def test_ends_on_all_sides(self):
        spots = [(2, 2), (0, 2), (4, 2), (2, 0), (2, 4), (0, 0), (4, 4), (4, 0), (0, 4)]
        cells = ("cells", 0, [row(cell(0))] + [row(cell(0)) for _ in spots[1:]], [cell(0), cell(0)])
        plan = ("plan", spots, [], [(4, 0, 0), (0, 2, 3)], [])
        across = [(1, 2, 3), (2, 2, 1), (2, 2, 3), (3, 2, 1)]
        legs = [(0, y, 0) for y in (2, 1)] + [(0, y, 2) for y in (2, 3)]
        legs += [(x, y, s) for x in (2, 4) for y, s in ((2, 0), (1, 0), (2, 2), (3, 2))]
        told = called(self, tree, cells, plan, cell(0), 0)
        self.assertEqual(told, sorted(across + legs + [(4, 0, 0), (0, 2, 3)]))
        turned = [((y, x, 3 - s)) for x, y, s in across + legs] + [(4, 0, 0), (0, 2, 3)]
        self.assertEqual(tree(cells, plan, cell(0), 1), sorted(turned))

    def test_outputs_at_the_own_place(self):
        cells = ("cells", 1, [row(cell(0)), row()], [cell(0), pad(0), cell(1), pad(0)])
        plan = ("plan", [(0, 0), (1, 0)], [(0, 0, 0)], [(0, 0, 3), (0, 0, 0), (0, 0, 2), (1, 0, 1)], [])
        for shape in range(2):
            self.assertEqual(tree(cells, plan, cell(0), shape), [(0, 0, 3)])
            self.assertEqual(tree(cells, plan, pad(0), shape), [(0, 0, 0), (0, 0, 1), (1, 0, 1)])
            self.assertEqual(tree(cells, plan, cell(1), shape), [(0, 0, 2), (1, 0, 3)])

    def test_all_trees(self):
        for seed, (cells, fabric) in enumerate(cases(100)):
            plan = any_plan(seed, cells, fabric)
            self.assertEqual(called(self, used, cells), plain_used(cells, plan))
            for source in used(cells):
                for shape in range(2):
                    told = called(self, tree, cells, plan, source, shape)
                    self.assertEqual(told, plain_tree(cells, plan, source, shape))
                    places = [beside(fabric, *wire) for wire in told]
                    places = [place for place in places if place is not None]
                    self.assertEqual(len(set(places)), len(places))


class ClauseTest(unittest.TestCase):
    def test_all_numbers_of_tracks(self):
        for seed, (cells, fabric) in enumerate(cases(50)):
            plan = any_plan(seed, cells, fabric)
            for tracks in range(1, 9):
                self.assertEqual(called(self, clauses_of, cells, plan, tracks), plain_clauses(cells, plan, tracks))

    def test_nothing(self):
        plan = ("plan", [], [], [], [])
        for tracks in (1, 8):
            self.assertEqual(called(self, clauses_of, ("cells", 0, [], []), plan, tracks), ([], 0))

    def test_first_sources_have_fewer_tracks(self):
        cells, plan = crossing(4)
        clauses, many = clauses_of(cells, plan, 3)
        self.assertEqual(many, 2 + 4 + 6 + 6)
        self.assertEqual(clauses[:5], [[1, 2], [3, 4, 5, 6], [7, 8, 9, 10, 11, 12], [13, 14, 15, 16, 17, 18], [-1, -3]])
        self.assertEqual(clauses[4:8], [[-1, -3], [-1, -5], [-2, -3], [-2, -5]])


class RoutedTest(unittest.TestCase):
    def check(self, cells, fabric, plan):
        told = called(self, routed, cells, fabric, plan)
        self.assertIs(type(told), tuple)
        config, paper = told
        word, shapes, tracks, proof = paper
        self.assertEqual((type(paper), word), (tuple, "routing"))
        many = config[1][3]
        check(config)
        self.assertEqual(config, plain_config(cells, fabric, plan, many, shapes, tracks))
        sources = plain_used(cells, plan)
        self.assertEqual((len(shapes), len(tracks)), (len(sources), len(sources)))
        taken = {}
        for i, source in enumerate(sources):
            self.assertIn(tracks[i], range(min(i, many - 1) + 1))
            for wire in plain_tree(cells, plan, source, shapes[i]):
                self.assertEqual(taken.setdefault((wire, tracks[i]), i), i)
        if many == 1:
            self.assertEqual(proof, [])
        else:
            self.assertTrue(proof_right(plain_clauses(cells, plan, many - 1)[0], proof))
        is_true(self, routed_right, cells, fabric, plan, config, paper)
        other = with_item(fabric, 3, 9 - fabric[3])
        self.assertEqual(routed(cells, other, plan), told)
        is_true(self, routed_right, cells, other, plan, config, paper)
        return config

    def test_runs_as_the_cells(self):
        """Point 19.7, for right plans and for any others."""
        for seed, (cells, fabric) in enumerate(cases(120, circles=False)):
            for plan in (placed(cells, fabric), any_plan(seed, cells, fabric)):
                config = self.check(cells, fabric, plan)
                rows = random_rows(seed, cells[1], 20)
                self.assertEqual(run(bits_of(config), rows), run_cells(cells, rows))

    def test_cells_with_circles(self):
        for seed, (cells, fabric) in enumerate(cases(40)):
            self.check(cells, fabric, any_plan(seed, cells, fabric))

    def test_great_fabrics(self):
        for seed, wide, high in ((1, 12, 12), (2, 12, 1), (3, 1, 12), (4, 12, 4)):
            fabric = ("fabric", wide, high, 1, 3)
            cells = made_cells(seed, wide * high, wide + high, wide + high, 3, circles=False)
            config, paper = routed(cells, fabric, placed(cells, fabric))
            is_true(self, routed_right, cells, fabric, placed(cells, fabric), config, paper)
            rows = random_rows(seed, cells[1], 20)
            self.assertEqual(run(bits_of(config), rows), run_cells(cells, rows))

    def test_nothing(self):
        fabric = ("fabric", 2, 1, 5, 2)
        config = self.check(("cells", 0, [], []), fabric, ("plan", [], [], [], []))
        self.assertEqual(config[1][3], 1)
        cells = ("cells", 2, [row(cell(0), table=1, kept=1, start=1)], [NONE, NONE])
        plan = ("plan", [(1, 0)], [(0, 0, 0), (1, 0, 1)], [(0, 0, 0), (1, 0, 1)], [])
        config = self.check(cells, fabric, plan)
        self.assertEqual(config[2:], ([
            ("setting", 0, 0, 0, [0, 0], [0] * 4), ("setting", 1, 1, 1, [1, 0], [0] * 4)],
            [(0, 0, 0, 0), (1, 0, 1, 0)], [(0, 0, 0, 0), (1, 0, 1, 0)]))

    def test_the_least_number(self):
        seen = set()
        for seed in range(150):
            random = Random(seed)
            fabric = ("fabric", *random.choice(((3, 1), (4, 1), (2, 2), (3, 2), (3, 3), (1, 5))), 1, 4)
            places = fabric[1] * fabric[2]
            cells = made_cells(seed, min(places, 5), random.randint(0, 5), random.randint(0, 4), 4)
            plan = any_plan(seed, cells, fabric)
            config = self.check(cells, fabric, plan)
            self.assertEqual(config[1][3], least_by_trying(cells, plan))
            seen.add(config[1][3])
        self.assertTrue({1, 2, 3} <= seen)

    def test_up_to_eight_tracks_and_no_more(self):
        fabric = ("fabric", 12, 2, 1, 4)
        # The further pads need three tracks by themselves.
        for extra, least in ((0, 1), (6, 3)):
            for many in range(1, 9):
                cells, plan = crossing(many, extra)
                self.assertEqual(self.check(cells, fabric, plan)[1][3], max(many, least))
            for many in (9, 10):
                cells, plan = crossing(many, extra)
                self.assertEqual(limit_of(cells, fabric, plan), "tracks")

    def test_searches_that_take_long(self):
        """The same, where searches are soon seen as long ones, and first attempts fail or not."""
        seen = set()
        for seed in range(90):
            random = Random(seed)
            fabric = ("fabric", *random.choice(((4, 1), (2, 2), (3, 2), (3, 3), (4, 4))), 1, 4)
            cells = made_cells(seed, min(fabric[1] * fabric[2], 14), random.randint(0, 5), random.randint(0, 4), 4)
            plan = any_plan(seed, cells, fabric)
            expected = routed(cells, fabric, plan)[0][1][3]
            with patch.object(tracks, "FEW_CLASHES", 1), patch.object(tracks, "FEW_CHANGES", (0, 3, 200)[seed % 3]):
                self.assertEqual(self.check(cells, fabric, plan)[1][3], expected)
            seen.add(expected)
        self.assertTrue({1, 2, 3, 4} <= seen)

    def test_too_many_tracks_and_searches_that_take_long(self):
        fabric = ("fabric", 12, 2, 1, 4)
        with patch.object(tracks, "FEW_CLASHES", 1), patch.object(tracks, "_apart_group", lambda masks: []):
            for many, limit in ((6, None), (8, None), (9, "tracks")):
                cells, plan = crossing(many)
                with patch.object(tracks, "FEW_CHANGES", 5 if many > 8 else 100):
                    self.assertEqual(limit_of(cells, fabric, plan), limit)

    def test_crowded_places(self):
        """A routing is found that is hard to find by the clauses alone."""
        random = Random(3)
        rows = []
        for _ in range(64):
            sources = [pad(random.randrange(10)) if random.random() < 0.15 else cell(random.randrange(64)) for _ in range(4)]
            rows.append(row(*sources, table=random.randrange(65536), kept=1))
        cells = ("cells", 10, rows, [cell(random.randrange(64)) for _ in range(10)])
        fabric = ("fabric", 8, 8, 1, 4)
        plan = placed(cells, fabric)
        config, paper = routed(cells, fabric, plan)
        self.assertEqual(config[1][3], 5)
        is_true(self, routed_right, cells, fabric, plan, config, paper)

    def test_far_too_many_tracks(self):
        """In one row of places, pads and cells on the left, and all their users on the right."""
        sources = [pad(at) for at in range(13)] + [cell(at) for at in range(6)]
        rows = [row()] * 6 + [row(*sources[k::6]) for k in range(6)]
        ins = [(x, 0, side) for x in range(6) for side in (0, 2)] + [(0, 0, 3)]
        plan = ("plan", [(x, 0) for x in range(12)], ins, [], [])
        self.assertEqual(limit_of(("cells", 13, rows, []), ("fabric", 12, 1, 1, 4), plan), "tracks")

    def test_there_is_a_routing_just_if_the_clauses_can_be_kept(self):
        for seed, (cells, fabric) in enumerate(cases(40)):
            plan = any_plan(seed, cells, fabric)
            least = routed(cells, fabric, plan)[0][1][3]
            for tracks in range(1, least + 2):
                told = solve(*plain_clauses(cells, plan, tracks))
                self.assertEqual(told[0], "yes" if tracks >= least else "no")


class RightTest(unittest.TestCase):
    FABRIC = ("fabric", 3, 2, 7, 2)
    # Both pads are used on the other side, so their wires meet in any shape if the row is one.
    CELLS = ("cells", 3, [row(pad(0), pad(1), table=6), row(cell(0), table=1, kept=1, start=1)], [cell(1), NONE, pad(0)])
    PLAN = ("plan", [(2, 0), (2, 1)], [(0, 0, 0), (0, 0, 3), (1, 1, 2)], [(2, 1, 2), (0, 1, 2), (0, 1, 3)], [])

    def made(self):
        return routed(self.CELLS, self.FABRIC, self.PLAN)

    def test_other_right_ones(self):
        config, (_, shapes, tracks, proof) = self.made()
        self.assertEqual((config[1][3], tracks[:2], len(shapes)), (2, [0, 1], 4))
        clauses = plain_clauses(self.CELLS, self.PLAN, 1)[0]
        count = 0
        for shapes in product(range(2), repeat=4):
            for tracks in product(range(2), repeat=4):
                other = plain_config(self.CELLS, self.FABRIC, self.PLAN, 2, shapes, tracks)
                paper = ("routing", list(shapes), list(tracks), proof)
                right = self.is_routing(shapes, tracks)
                count += right
                self.assertIs(routed_right(self.CELLS, self.FABRIC, self.PLAN, other, paper), right)
        self.assertGreater(count, 3)
        # A longer proof is right, too.
        for other in (solve(clauses, 8)[1], clauses + proof):
            self.assertTrue(proof_right(clauses, other))
            is_true(self, routed_right, self.CELLS, self.FABRIC, self.PLAN, *self.with_proof(other))

    def is_routing(self, shapes, tracks):
        sources = plain_used(self.CELLS, self.PLAN)
        if tracks[0] != 0:
            return False
        wires = [(wire, track) for source, shape, track in zip(sources, shapes, tracks)
                 for wire in plain_tree(self.CELLS, self.PLAN, source, shape)]
        return len(set(wires)) == len(wires)

    def with_proof(self, proof):
        config, paper = self.made()
        return config, with_item(paper, 3, proof)

    def check_wrong(self, config, paper):
        is_false(self, routed_right, self.CELLS, self.FABRIC, self.PLAN, config, paper)

    def test_wrong_papers(self):
        config, paper = self.made()
        is_true(self, routed_right, self.CELLS, self.FABRIC, self.PLAN, config, paper)
        _, shapes, tracks, proof = paper
        for wrong in ([], shapes[:-1], shapes + [0], with_item(shapes, 0, 2), with_item(shapes, 3, -1),
                      with_item(shapes, 1, 1 - shapes[1]) + [0]):
            self.check_wrong(config, with_item(paper, 1, wrong))
        for wrong in ([], tracks[:-1], tracks + [0], with_item(tracks, 1, 2), with_item(tracks, 1, -1),
                      with_item(tracks, 1, 0), [1, 0] + tracks[2:], with_item(tracks, 3, 1 - tracks[3])):
            self.check_wrong(config, with_item(paper, 2, wrong))
        for wrong in ([], proof[:-1], proof + [[1]], [[-1]], [[99], []], [[]] if len(proof) > 1 else [[1, 2]]):
            if not proof_right(plain_clauses(self.CELLS, self.PLAN, 1)[0], wrong):
                self.check_wrong(config, with_item(paper, 3, wrong))

    def test_each_code_counts(self):
        config, paper = self.made()
        word, fabric, settings, ins, outs = config
        for at, setting in enumerate(settings):
            for part in (1, 2, 3):
                other = with_item(settings, at, with_item(setting, part, setting[part] + 1))
                self.check_wrong((word, fabric, other, ins, outs), paper)
            for part in (4, 5):
                for k, code in enumerate(setting[part]):
                    codes = with_item(setting[part], k, 0 if code else 1)
                    other = with_item(settings, at, with_item(setting, part, codes))
                    self.check_wrong((word, fabric, other, ins, outs), paper)
                other = with_item(settings, at, with_item(setting, part, setting[part] + [0]))
                self.check_wrong((word, fabric, other, ins, outs), paper)
        for at in range(3):
            for ends in (ins, outs):
                other = with_item(ends, at, with_item(ends[at], 3, 1 - ends[at][3]))
                changed = (other, outs) if ends is ins else (ins, other)
                self.check_wrong((word, fabric, settings, *changed), paper)
        for wrong in ((word, fabric, settings[:-1], ins, outs), (word, fabric, settings, ins[:-1], outs),
                      (word, fabric, settings, ins, outs + [(0, 0, 0, 0)]), (word, fabric, [], [], [])):
            self.check_wrong(wrong, paper)

    def test_the_fabric_of_the_config(self):
        config, paper = self.made()
        for at, number in ((1, 2), (2, 3), (3, 1), (3, 3), (3, 0), (3, -1), (3, 9), (4, 1), (4, 3)):
            self.check_wrong(with_item(config, 1, with_item(config[1], at, number)), paper)

    def test_too_many_tracks(self):
        """A routing for more tracks than the least number has no proof."""
        _, (_, shapes, tracks, proof) = self.made()
        other = plain_config(self.CELLS, self.FABRIC, self.PLAN, 3, shapes, tracks)
        for told in (proof, [], [[]]):
            self.check_wrong(other, ("routing", shapes, tracks, told))

    def test_one_track(self):
        cells = ("cells", 1, [row(pad(0))], [cell(0)])
        plan = ("plan", [(0, 0)], [(0, 0, 0)], [(0, 0, 0)], [])
        fabric = ("fabric", 1, 1, 8, 1)
        config, paper = routed(cells, fabric, plan)
        self.assertEqual(paper, ("routing", [0, 0], [0, 0], []))
        for shapes in product(range(2), repeat=2):
            is_true(self, routed_right, cells, fabric, plan, config, with_item(paper, 1, list(shapes)))
        for proof in ([[]], [[1], []], [[1]]):
            is_false(self, routed_right, cells, fabric, plan, config, with_item(paper, 3, proof))
        # Two tracks are not the least number, whatever is told.
        other = plain_config(cells, fabric, plan, 2, [0, 0], [0, 0])
        for proof in ([], [[]], [[1], []]):
            is_false(self, routed_right, cells, fabric, plan, other, with_item(paper, 3, proof))

    def test_more_than_eight_tracks(self):
        fabric = ("fabric", 12, 2, 1, 4)
        cells, plan = crossing(9)
        told = plain_config(cells, fabric, plan, 9, [0] * 9, list(range(9)))
        proof = solve(*plain_clauses(cells, plan, 8))[1]
        self.assertTrue(proof_right(plain_clauses(cells, plan, 8)[0], proof))
        is_false(self, routed_right, cells, fabric, plan, told, ("routing", [0] * 9, list(range(9)), proof))


if __name__ == "__main__":
    unittest.main()
