"""Section The desk (points 27.1 to 27.4) and desk.py of the interface."""

import unittest

from calling import called, with_item
from cellcloth.audit import audit
from cellcloth.bits import bits_of, config_of
from cellcloth.desk import Desk, session
from cellcloth.errors import LimitError
from cellcloth.fabric import empty
from cellcloth.judge import judge
from cellcloth.meaning import run
from cellcloth.parsing import parse
from cellcloth.reader import net_of, remarks
from cellcloth.road import road, shown
from cellcloth.stuck import faults, told
from cellcloth.times import times
from roadmaking import TEXTS

FABRIC = ("fabric", 4, 4, 2, 3)
COUNTER = "line part c() { in e: 1; reg n: 2 from 0 = choose(e, (n + word(1, 2)), n); out s: 2 = n; } top c();"


def line_of(text):
    return "line part c() { " + text + " } top c();"


def dossier_of(text, fabric=FABRIC):
    return road(parse("part c() { " + text + " } top c();\n"), fabric)


def made_desk(text, fabric=FABRIC):
    """A desk at which the circuit of a text has been made."""
    desk = Desk(fabric)
    desk.command(line_of(text))
    assert desk.command("make").startswith("made ")
    return desk


def turned_to(desk, bits, others):
    """Turns the bits of a machine in which others differ."""
    for at, (bit, other) in enumerate(zip(bits, others)):
        if bit != other:
            assert desk.command(f"flip {at}") == f"flipped {at}"


class LinesTest(unittest.TestCase):
    def test_example(self):
        part = "line part c() { in a: 1; reg r: 1 from 0 = a; out s: 1 = r; } top c();"
        told = called(self, session, ("fabric", 2, 2, 1, 2), ["step 1", part, "make x", "array 0 1 1 1", "step"])
        self.assertEqual(told, ["error none", "lines 1", "error line", "error array", "error none"])

    def test_lines(self):
        self.assertEqual(session(FABRIC, ["line a", "line ", "line  b ", "less 2", "line # line", "less 9", "less 0", "less 1"]),
                         ["lines 1", "lines 2", "lines 3", "lines 2", "lines 3", "lines 3", "lines 0", "lines 0"])
        self.assertEqual(session(FABRIC, []), [])
        self.assertEqual(session(FABRIC, ["line x", "less 0000", "line x", "less 000000001", "less 999999999"]),
                         ["lines 1", "lines 0", "lines 1", "lines 1", "lines 1"])

    def test_less_leaves_the_first_lines(self):
        desk = Desk(FABRIC)
        for text in ("part c() {", "out s: 3 = word(5, 3);", "} top c();", "this is no text"):
            desk.command("line " + text)
        self.assertEqual(desk.command("make"), "error text 4")
        self.assertEqual(desk.command("less 3"), "lines 3")
        self.assertTrue(desk.command("make").startswith("made "))
        self.assertEqual(desk.command("step"), "told 5")

    def test_a_newline_stands_behind_each_line(self):
        # In one line without it, the comment would take all that follows.
        desk = Desk(FABRIC)
        for text in ("part c() { # the part", "in a", ": 1; out s: 1 = a;", "} top c", "();"):
            desk.command("line " + text)
        self.assertTrue(desk.command("make").startswith("made "))
        for lines, at in ((["line part", "line", "line ", "line 9"], 3), ([], 1), (["line ", "line "], 1)):
            self.assertEqual(session(FABRIC, lines + ["make"])[-1], f"error text {at}")

    def test_no_commands(self):
        lines = ("", " ", "line", "LINE a", "lines", "linea b", " line a", "make ", " make", "make  ", "make 1", "Make", "less",
                 "less ", "less  1", "less 1 ", "less 1 2", "less -1", "less +1", "less 1.0", "less x", "less 1234567890",
                 "less 0000000000", "array", "array 1 1 1", "array 1 1 1 1 1", "array 1 1 1 x", "array 1  1 1 1",
                 "step x", "step 1 x", "step ", "step  1", "step 1  2", "step 1 ", "step -1", "step 1234567890", "again 1",
                 "again ", "check 0", "flip", "flip 1 2", "flip -1", "audit x", "place", "place 1 2", "time", "time 1 2",
                 "time 1 2 3 4", "time 1 2 -3", "remarks 1", "same 1", "same ", "stuck", "stuck 1", "stuck 1 2 3", "stuck -1 0",
                 "stuck 1 x", "none", "error line", "()", "~", "step 1_0", "step 0x1")
        self.assertEqual(session(FABRIC, lines), ["error line"] * len(lines))
        desk = made_desk(TEXTS["counter"])
        desk.command("step 1")
        for line in lines:
            self.assertEqual(desk.command(line), "error line", line)
        # They changed nothing.
        self.assertEqual([desk.command("check"), desk.command("less 9"), desk.command("audit")], ["alike 1", "lines 1", "right"])

    def test_nothing_made(self):
        lines = ["step", "step 1", "step 1 2 3 999999999", "again", "check", "flip 0", "flip 999999999", "audit", "place 0",
                 "time 1 2 3", "remarks", "same", "stuck 1 0"]
        self.assertEqual(session(FABRIC, lines), ["error none"] * len(lines))
        # Nor by a make that failed.
        self.assertEqual(session(FABRIC, ["make"] + lines), ["error text 1"] + ["error none"] * len(lines))

    def test_array(self):
        self.assertEqual(session(FABRIC, ["array 12 12 8 4", "array 01 002 000000003 4", "array 1 1 1 1"]),
                         ["array 12 12 8 4", "array 1 2 3 4", "array 1 1 1 1"])
        lines = ["array 0 1 1 1", "array 1 0 1 1", "array 1 1 0 1", "array 1 1 1 0", "array 13 1 1 1", "array 1 13 1 1",
                 "array 1 1 9 1", "array 1 1 1 5", "array 999999999 1 1 1", "array 0 0 0 0"]
        self.assertEqual(session(FABRIC, lines), ["error array"] * len(lines))


class MakeTest(unittest.TestCase):
    def made(self, dossier):
        return f"made {len(dossier['cells'][2])} {dossier['routed'][0][1][3]} {len(dossier['bits'])}"

    def test_each_text(self):
        for name, text in TEXTS.items():
            for fabric in (("fabric", 6, 6, 1, 4), ("fabric", 7, 7, 8, 2)):
                told = called(self, session, fabric, [line_of(text), "make", "audit", "check"])
                self.assertEqual(told, ["lines 1", self.made(dossier_of(text, fabric)), "right", "alike 0"], name)

    def test_array_and_make(self):
        """The fabric may be told before the lines, behind them, and between two makings."""
        one, other = dossier_of(TEXTS["sum"]), dossier_of(TEXTS["sum"], ("fabric", 9, 3, 5, 2))
        line = line_of(TEXTS["sum"])
        self.assertEqual(session(FABRIC, ["array 9 3 5 2", line, "make"])[2], self.made(other))
        self.assertEqual(session(FABRIC, [line, "array 9 3 5 2", "make"])[2], self.made(other))
        told = session(FABRIC, [line, "make", "step 1 2", "array 9 3 5 2", "step 3 4", "check", "audit", "make", "check", "audit"])
        self.assertEqual([told[1], told[7]], [self.made(one), self.made(other)])
        self.assertEqual(told[3:7], ["array 9 3 5 2", told[4], "alike 2", "right"])
        self.assertEqual(told[8:], ["alike 0", "right"])
        # An array that is none leaves the fabric as it was.
        self.assertEqual(session(FABRIC, [line, "array 9 0 5 2", "make"])[2], self.made(one))

    def test_lines_stay_and_what_was_made_stays(self):
        told = session(FABRIC, [COUNTER, "make", "less 0", "step 1", "line x", "make", "step 1", "step 0", "check"])
        self.assertEqual(told[2:], ["lines 0", "told 0", "lines 1", "error text 1", "told 1", "told 2", "alike 3"])

    def test_errors(self):
        for text, fabric, error in (
                ("out s: 1 = ;", FABRIC, "text 1"), ("out s: 1 = y;", FABRIC, "kind s"),
                ("use u = d() { };", FABRIC, "text 1"), ("use u = d() { }", FABRIC, "kind u"),
                ("if (1 div 0) { } else { }", FABRIC, "kind "), ("let x: 1 = not(y); let y: 1 = x;", FABRIC, "loop x y"),
                (" ".join(f"in a{k}: 13;" for k in range(5)), FABRIC, "limit inputs"),
                ("mem m: 13 of 5 { }", FABRIC, "limit state"), ("in a: (1000000 + 1);", FABRIC, "limit amount"),
                ("in a: 9; in b: 9; reg r: 9 from 0 = ((a * b) ^ (r * a)); out s: 9 = r;", FABRIC, "limit gates"),
                ("in a: 1; out s: 1 = a;", with_item(FABRIC, 4, 1), "fit pins"),
                (TEXTS["sum"], ("fabric", 1, 1, 1, 4), "fit cells"),
                ("in a: 16; in b: 1; out s: 1 = b;", FABRIC, "fit ins"), ("out s: 16 = word(0, 16); out t: 1 = word(0, 1);", FABRIC, "fit outs")):
            self.assertEqual(session(fabric, [line_of(text), "make"])[1], "error " + error)
            # Behind something that was made, an error changes nothing.
            desk = made_desk(TEXTS["counter"])
            desk.command("step 1")
            desk.command("flip 30")
            kept = [desk.command(line) for line in ("audit", "place 0", "same", "remarks")]
            desk.command("less 0")
            desk.command(line_of(text))
            desk.command("array " + " ".join(str(number) for number in fabric[1:]))
            self.assertEqual(desk.command("make"), "error " + error)
            self.assertEqual([desk.command(line) for line in ("audit", "place 0", "same", "remarks")], kept)
            desk.command("flip 30")
            self.assertEqual([desk.command("check"), desk.command("step 0")], ["alike 1", "told 1"])

    def test_make_begins_anew(self):
        told = session(FABRIC, [COUNTER, "make", "step 1", "step 1", "flip 40", "make", "audit", "check", "step 0", "step 1"])
        self.assertEqual(told[5:], [told[1], "right", "alike 0", "told 0", "told 0"])


class StepTest(unittest.TestCase):
    def test_rows(self):
        told = session(FABRIC, [COUNTER, "make", "step 1", "step 01", "step 000000000", "check", "again", "check", "step 1",
                                "step 1"])
        self.assertEqual(told[2:], ["told 0", "told 1", "told 2", "alike 3", "again", "alike 0", "told 0", "told 1"])

    def test_as_the_description_means(self):
        for name, text in TEXTS.items():
            circuit = dossier_of(text, ("fabric", 6, 6, 1, 4))["flat"]
            rows = [[(7 * k + 3 * at) % 2 ** width for at, (_, width) in enumerate(circuit[1])] for k in range(12)]
            desk = made_desk(text, ("fabric", 6, 6, 1, 4))
            told = [desk.command(" ".join(["step", *map(str, words)])) for words in rows]
            self.assertEqual(told, [" ".join(["told", *map(str, words)]) for words in run(circuit, rows)], name)
            self.assertEqual(desk.command("check"), "alike 12")

    def test_words_that_do_not_fit(self):
        desk = made_desk("in a: 2; in b: 1; out s: 2 = a;")
        for line in ("step", "step 1", "step 1 1 1", "step 4 0", "step 0 2", "step 999999999 0"):
            self.assertEqual(desk.command(line), "error words")
        self.assertEqual(desk.command("check"), "alike 0")
        self.assertEqual(desk.command("step 3 1"), "told 3")
        desk = made_desk("out s: 2 = word(2, 2);")
        self.assertEqual([desk.command("step 0"), desk.command("step"), desk.command("check")],
                         ["error words", "told 2", "alike 1"])
        desk = made_desk("in a: 1;")
        self.assertEqual([desk.command("step 0"), desk.command("step 1"), desk.command("check")], ["told", "told", "alike 2"])

    def test_machines_that_tell_something_else(self):
        text = TEXTS["sum"]
        dossier = dossier_of(text)
        config = dossier["routed"][0]
        rows = [[3, 1], [2, 7], [0, 0], [5, 5], [1, 6], [7, 7]]
        seen = set()
        for at, setting in enumerate(config[2]):
            for part, worth in ((1, setting[1] ^ 255), (1, setting[1] ^ 1), (3, 1 - setting[3])):
                others = bits_of(with_item(config, 2, with_item(config[2], at, with_item(setting, part, worth))))
                desk = made_desk(text)
                turned_to(desk, dossier["bits"], others)
                machine = shown({**dossier, "bits": others}, rows)
                self.assertEqual([desk.command(f"step {a} {b}") for a, b in rows],
                                 [" ".join(["told", *map(str, row)]) for row in machine])
                differ = [k for k, (row, other) in enumerate(zip(machine, run(dossier["flat"], rows))) if row != other]
                expected = f"other {differ[0]}" if differ else "alike 6"
                self.assertEqual(desk.command("check"), expected)
                self.assertEqual(desk.command("audit"), "wrong bits")
                seen.add(expected)
                # All rows run from the first cycle on, also behind bits that are turned in between.
                turned_to(desk, others, dossier["bits"])
                self.assertEqual([desk.command("check"), desk.command("audit")], ["alike 6", "right"])
                self.assertEqual(desk.command("step 0 0"), "told " + " ".join(map(str, run(dossier["flat"], rows + [[0, 0]])[-1])))
        self.assertIn("alike 6", seen)
        self.assertGreater(len(seen), 3)


class MachineTest(unittest.TestCase):
    def test_flip(self):
        dossier = dossier_of(TEXTS["counter"])
        many = len(dossier["bits"])
        desk = made_desk(TEXTS["counter"])
        self.assertEqual([desk.command(line) for line in (f"flip {many}", "flip 999999999", "audit")],
                         ["error flip", "error flip", "right"])
        for at in (0, 27, 100, many - 1):
            self.assertEqual([desk.command(f"flip {at:06}"), desk.command("audit"), desk.command(f"flip {at}"), desk.command("audit")],
                             [f"flipped {at}", "wrong bits", f"flipped {at}", "right"])

    def test_bits_that_are_no_config(self):
        dossier = dossier_of(TEXTS["counter"])
        end = len(dossier["bits"]) - 16
        lines = ["step 1", "check", "same", "place 0", "place 999", "time 1 2 3", "remarks"]
        desk = made_desk(TEXTS["counter"])
        desk.command("flip 50")
        for line in lines:
            self.assertEqual(desk.command(line), f"error bits {end}")
        # What does not look at the machine goes on; words are looked at first.
        self.assertEqual([desk.command(line) for line in ("step 2", "step", "again", "stuck 1 2", "audit", "flip 99999")],
                         ["error words", "error words", "again", "error fault", "wrong bits", "error flip"])
        self.assertEqual([desk.command(line) for line in ("flip 50", "check", "step 1")], ["flipped 50", "alike 0", "told 0"])
        # Another head: more inputs than there are bits for.
        desk.command("flip 19")
        with self.assertRaises(ValueError) as caught:
            config_of(with_item(dossier["bits"], 19, 1 - dossier["bits"][19]))
        for line in lines:
            self.assertEqual(desk.command(line), f"error bits {caught.exception.at}")

    def test_other_numbers_of_inputs_and_outputs(self):
        """A machine of as many bits, which has an input less and an output more."""
        text = "in a: 2; out s: 2 = a;"
        dossier = dossier_of(text)
        word, fabric, settings, ins, outs = dossier["routed"][0]
        free = [(x, y, side, 0) for x, y, side in ((0, 0, 3), (0, 0, 0), (1, 0, 0), (2, 0, 0)) if (x, y, side, 0) not in outs][:1]
        others = bits_of((word, fabric, settings, ins[:1], outs + free))
        desk = made_desk(text)
        desk.command("step 1")
        turned_to(desk, dossier["bits"], others)
        self.assertEqual([desk.command(line) for line in ("step 1", "step 4", "check", "same", "audit")],
                         ["error words"] * 4 + ["wrong bits"])
        self.assertEqual(desk.command("remarks"), f"remarks {len(remarks(others))}")
        self.assertEqual(desk.command("time 1 1 1"), f"period {times(config_of(others), ('delays', 1, 1, 1))[0]}")
        self.assertTrue(desk.command("place 3").startswith("setting "))
        desk.command("again")
        self.assertEqual([desk.command("check"), desk.command("same")], ["error words"] * 2)
        # Ahead of circles.
        circle = bits_of((word, fabric, self.circle(settings), ins[:1], outs + free))
        turned_to(desk, others, circle)
        self.assertEqual([desk.command(line) for line in ("step 1", "check", "same", "remarks")], ["error words"] * 3 + ["error loop 0"])
        turned_to(desk, circle, dossier["bits"])
        self.assertEqual([desk.command(line) for line in ("step 3", "check", "same", "audit")], ["told 3", "alike 1", "same", "right"])

    def test_only_other_inputs_and_only_other_outputs(self):
        """Machines of as many bits on another fabric."""
        text, fabric = "in a: 3; out s: 3 = a;", ("fabric", 2, 2, 1, 3)
        bits = dossier_of(text, fabric)["bits"]
        slim = ("fabric", 1, 3, 3, 2)
        ends = [(0, 0, 0, 0), (0, 0, 1, 0), (0, 0, 3, 0)]
        for ins, outs in ((1, 3), (3, 1)):
            others = bits_of(("config", slim, [empty(slim)] * 3, ends[:ins], ends[:outs]))
            self.assertEqual(len(others), len(bits))
            desk = made_desk(text, fabric)
            self.assertEqual(desk.command("step 5"), "told 5")
            turned_to(desk, bits, others)
            self.assertEqual([desk.command(line) for line in ("step 1", "check", "same", "place 2", "place 3")],
                             ["error words"] * 3 + ["setting" + " 0" * 17, "error place"])

    def circle(self, settings):
        """The settings with a circle in the first place."""
        return [("setting", 0, 0, 0, [1, 0, 0], settings[0][5])] + settings[1:]

    def test_circles(self):
        dossier = dossier_of(TEXTS["counter"])
        config = dossier["routed"][0]
        settings = [("setting", 1, 0, 0, [1, 0, 0], setting[5]) if at in (3, 12) else setting for at, setting in enumerate(config[2])]
        others = bits_of(with_item(config, 2, settings))
        desk = made_desk(TEXTS["counter"])
        turned_to(desk, dossier["bits"], others)
        lines = ("step 1", "check", "same", "remarks", "time 1 2 3")
        self.assertEqual([desk.command(line) for line in lines], ["error loop 3 12"] * 5)
        self.assertEqual([desk.command("step 2"), desk.command("place 3").split()[:8]],
                         ["error words", ["setting", "1", "0", "0", "1", "0", "0", str(config[2][3][5][0])]])
        self.assertEqual([desk.command("audit"), desk.command("place 16")], ["wrong bits", "error place"])
        turned_to(desk, others, dossier["bits"])
        self.assertEqual(desk.command("check"), "alike 0")

    def test_place(self):
        dossier = dossier_of(TEXTS["sum"])
        desk = made_desk(TEXTS["sum"])
        for number, (_, table, kept, start, taps, drives) in enumerate(dossier["routed"][0][2]):
            numbers = [table, kept, start] + taps + drives
            self.assertEqual(desk.command(f"place {number:03}"), "setting " + " ".join(map(str, numbers)))
        for number in (16, 17, 999999999):
            self.assertEqual(desk.command(f"place {number}"), "error place")

    def test_time(self):
        dossier = dossier_of(TEXTS["sum"])
        desk = made_desk(TEXTS["sum"])
        for delays in ((0, 0, 0), (1, 2, 3), (5, 0, 1), (0, 7, 0), (0, 0, 9), (999999999, 999999999, 999999999)):
            period = times(dossier["routed"][0], ("delays", *delays))[0]
            self.assertEqual(desk.command("time {} {} {}".format(*delays)), f"period {period}")
        self.assertEqual(desk.command("time 007 00 1"), desk.command("time 7 0 1"))

    def test_remarks(self):
        dossier = dossier_of(TEXTS["plain"])
        config = dossier["routed"][0]
        desk = made_desk(TEXTS["plain"])
        self.assertEqual(desk.command("remarks"), f"remarks {len(remarks(dossier['bits']))}")
        used = bits_of(with_item(config, 2, [with_item(setting, 5, [0] + [1] * (len(setting[5]) - 1)) for setting in config[2]]))
        turned_to(desk, dossier["bits"], used)
        self.assertEqual(desk.command("remarks"), f"remarks {len(remarks(used))}")
        self.assertGreater(len(remarks(used)), 10)

    def test_same(self):
        for name in ("counter", "sum", "machine", "moved"):
            dossier = dossier_of(TEXTS[name], ("fabric", 5, 5, 2, 3))
            desk = made_desk(TEXTS[name], ("fabric", 5, 5, 2, 3))
            self.assertEqual(desk.command("same"), "same")
            config = dossier["routed"][0]
            bits = dossier["bits"]
            for at, setting in enumerate(config[2]):
                others = bits_of(with_item(config, 2, with_item(config[2], at, with_item(setting, 1, setting[1] ^ 128))))
                turned_to(desk, bits, others)
                bits = others
                answer = judge(net_of(others), dossier["net"])
                self.assertEqual(desk.command("same"), "same" if answer[0] == "same" else f"other {len(answer[1])}")

    def test_same_and_its_limit(self):
        text = "in a: 12; reg r: 1 from 0 = any(a); out s: 1 = r;"
        dossier = dossier_of(text)
        desk = made_desk(text)
        self.assertEqual(desk.command("same"), "same")
        config = dossier["routed"][0]
        at = [k for k, setting in enumerate(config[2]) if setting[2]][0]
        others = bits_of(with_item(config, 2, with_item(config[2], at, with_item(config[2][at], 1, config[2][at][1] ^ 1))))
        turned_to(desk, dossier["bits"], others)
        with self.assertRaises(LimitError):
            judge(net_of(others), dossier["net"])
        self.assertEqual(desk.command("same"), "error limit inputs")

    def test_stuck(self):
        for text in (TEXTS["sum"], "in a: 1; in b: 1; reg r: 1 from 0 = (r & a); out s: 1 = r;"):
            net = dossier_of(text)["last"][0]
            desk = made_desk(text)
            for node, bit in faults(net):
                expected = "found" if told(net, (node, bit))[0] == "test" else "none"
                self.assertEqual(desk.command(f"stuck {node} {bit}"), expected)
            nodes = 1 + faults(net)[-1][0]
            for words in ("0 0", "0 1", "1 2", f"{nodes} 0", "999999999 1", "1 999999999"):
                self.assertEqual(desk.command("stuck " + words), "error fault")
        # The input that nobody uses.
        self.assertEqual([desk.command("stuck 2 0"), desk.command("stuck 2 1")], ["none", "none"])

    def test_audit(self):
        desk = made_desk(TEXTS["sum"])
        dossier = dossier_of(TEXTS["sum"])
        for at in range(0, len(dossier["bits"]), 23):
            desk.command(f"flip {at}")
            others = with_item(dossier["bits"], at, 1 - dossier["bits"][at])
            self.assertEqual(desk.command("audit"), f"wrong {audit({**dossier, 'bits': others})}")
            desk.command(f"flip {at}")
            self.assertEqual(desk.command("audit"), "right")


class DeskTest(unittest.TestCase):
    LINES = [COUNTER, "make", "step 1", "step 1", "check", "flip 33", "audit", "check", "flip 33", "array 2 3 1 4", "make", "place 1",
             "time 3 2 1", "remarks", "same", "stuck 2 1", "less 0", "make", "again", "step 1"]

    def test_a_session_is_a_desk_line_by_line(self):
        desk = Desk(FABRIC)
        told = called(self, session, FABRIC, self.LINES)
        self.assertEqual([desk.command(line) for line in self.LINES], told)
        self.assertTrue(all(isinstance(line, str) for line in told))

    def test_desks_do_not_share(self):
        one, other = Desk(FABRIC), Desk(FABRIC)
        expected = session(FABRIC, self.LINES)
        told = []
        for line in self.LINES:
            told.append(one.command(line))
            other.command("line x")
            other.command("array 1 1 1 1")
            other.command("step 1")
        self.assertEqual(told, expected)

    def test_what_the_lines_mean(self):
        desk = Desk(("fabric", 3, 3, 1, 4))
        for line in ("part half(W) {", "  in a: W; in b: W;", "  out s: W = (a ^ b); out c: W = (a & b);", "}", "part c() {",
                     "  in a: 3; in b: 3;", "  use h = half(3) { a = a; b = b; }", "  out s: 3 = h.s; out c: 3 = h.c;", "}", "top c();"):
            desk.command("line " + line)
        self.assertTrue(desk.command("make").startswith("made 6 "))
        self.assertEqual(desk.command("step 6 3"), "told 5 2")


if __name__ == "__main__":
    unittest.main()
