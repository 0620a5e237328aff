"""The desk, at which commands are given line by line (section The desk)."""

from cellcloth.audit import audit
from cellcloth.bits import config_of
from cellcloth.errors import BitsError, FitError, KindError, LimitError, LoopError, TextError
from cellcloth.fabric import is_fabric
from cellcloth.judge import judge
from cellcloth.meaning import run
from cellcloth.nets import many_nodes
from cellcloth.parsing import parse
from cellcloth.reader import net_of, remarks
from cellcloth.road import road, shown
from cellcloth.stuck import told
from cellcloth.times import times

MOST_DIGITS = 9


def session(fabric, lines):
    """Returns the lines that commands give, one after the other, on a new desk."""
    desk = Desk(fabric)
    return [desk.command(line) for line in lines]


class Desk:
    """A desk with a fabric, without lines, at which nothing has been made."""

    def __init__(self, fabric):
        self.fabric = fabric
        self.lines = []
        self.dossier = None
        self.machine = []
        self.rows = []

    def command(self, line):
        """Performs a command and returns the line that it gives."""
        if line.startswith("line "):
            self.lines = [*self.lines, line[5:]]
            return f"lines {len(self.lines)}"
        words = line.split(" ")
        numbers = _numbers(words[1:])
        word = words[0]
        if word not in ACTIONS or numbers is None or word in COUNTS and len(numbers) != COUNTS[word]:
            return "error line"
        if self.dossier is None and word not in WITHOUT_DOSSIER:
            return "error none"
        act = ACTIONS[word]
        try:
            return act(self, numbers)
        except TextError as in_text:
            return f"error text {in_text.line}"
        except KindError as of_kind:
            return f"error kind {of_kind.place}"
        except FitError as too_small:
            return f"error fit {too_small.kind}"
        except BitsError as in_bits:
            return f"error bits {in_bits.at}"
        except LimitError as too_much:
            return f"error limit {too_much.kind}"
        except LoopError as on_circles:
            return _listed("error loop", on_circles.places)


def _numbers(words):
    """Returns the numbers that words are, or None if one is no number."""
    if any([not word.isdigit() or len(word) > MOST_DIGITS for word in words]):
        return None
    return [int(word) for word in words]


def _listed(text, numbers):
    return text + "".join([f" {number}" for number in numbers])


def _less(desk, numbers):
    desk.lines = desk.lines[:numbers[0]]
    return f"lines {len(desk.lines)}"


def _array(desk, numbers):
    fabric = ("fabric", *numbers)
    if not is_fabric(fabric):
        return "error array"
    desk.fabric = fabric
    return _listed("array", numbers)


def _make(desk, numbers):
    dossier = road(parse("".join([line + "\n" for line in desk.lines])), desk.fabric)
    desk.dossier = dossier
    desk.machine = dossier["bits"]
    desk.rows = []
    tracks = dossier["routed"][0][1][3]
    return _listed("made", [len(dossier["cells"][2]), tracks, len(dossier["bits"])])


def _step(desk, numbers):
    inputs = desk.dossier["flat"][1]
    if len(numbers) != len(inputs) or any([word >= 1 << width for word, (_, width) in zip(numbers, inputs)]):
        return "error words"
    if not _machine_fits(desk):
        return "error words"
    rows = [*desk.rows, numbers]
    row = _machine_rows(desk, rows)[-1]
    desk.rows = rows
    return _listed("told", row)


def _again(desk, numbers):
    desk.rows = []
    return "again"


def _check(desk, numbers):
    if not _machine_fits(desk):
        return "error words"
    wanted = run(desk.dossier["flat"], desk.rows)
    for at, (row, other) in enumerate(zip(_machine_rows(desk, desk.rows), wanted)):
        if row != other:
            return f"other {at}"
    return f"alike {len(wanted)}"


def _flip(desk, numbers):
    number = numbers[0]
    if number >= len(desk.machine):
        return "error flip"
    desk.machine = [1 - bit if at == number else bit for at, bit in enumerate(desk.machine)]
    return f"flipped {number}"


def _audit(desk, numbers):
    key = audit(_machine_dossier(desk))
    return "right" if key is None else f"wrong {key}"


def _place(desk, numbers):
    settings = config_of(desk.machine)[2]
    if numbers[0] >= len(settings):
        return "error place"
    _, table, kept, start, taps, drives = settings[numbers[0]]
    return _listed("setting", [table, kept, start, *taps, *drives])


def _time(desk, numbers):
    period, _ = times(config_of(desk.machine), ("delays", *numbers))
    return f"period {period}"


def _remarks(desk, numbers):
    return f"remarks {len(remarks(desk.machine))}"


def _same(desk, numbers):
    if not _machine_fits(desk):
        return "error words"
    answer = judge(net_of(desk.machine), desk.dossier["net"])
    return "same" if answer[0] == "same" else f"other {len(answer[1])}"


def _stuck(desk, numbers):
    net = desk.dossier["last"][0]
    node, bit = numbers
    if node not in range(1, many_nodes(net)) or bit not in (0, 1):
        return "error fault"
    return "found" if told(net, (node, bit))[0] == "test" else "none"


def _machine_fits(desk):
    """Returns whether the machine has as many inputs and outputs as the circuit has bits of them."""
    _, inputs, _, _, _, outputs = desk.dossier["flat"]
    _, _, _, ins, outs = config_of(desk.machine)
    return len(ins) == sum([width for _, width in inputs]) and len(outs) == sum([width for _, width, _ in outputs])


def _machine_dossier(desk):
    return {**desk.dossier, "bits": desk.machine}


def _machine_rows(desk, rows):
    return shown(_machine_dossier(desk), rows)


ACTIONS = {
    "less": _less, "array": _array, "make": _make, "step": _step, "again": _again, "check": _check, "flip": _flip,
    "audit": _audit, "place": _place, "time": _time, "remarks": _remarks, "same": _same, "stuck": _stuck,
}

# How many numbers follow; behind `step` there may be any.
COUNTS = {
    "less": 1, "array": 4, "make": 0, "again": 0, "check": 0, "flip": 1, "audit": 0, "place": 1, "time": 3,
    "remarks": 0, "same": 0, "stuck": 2,
}

WITHOUT_DOSSIER = ("less", "array", "make")
