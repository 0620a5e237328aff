"""The fabric: its places and sides, settings and configs (section The fabric)."""

from cellcloth.errors import KindError

MOST_PLACES = 12
MOST_TRACKS = 8
MOST_PINS = 4
MOST_ENDS = 64

STEPS = ((0, -1), (1, 0), (0, 1), (-1, 0))


def opposite(side):
    """Returns the opposite side."""
    return side ^ 2


def beside(fabric, x, y, side):
    """Returns the place behind a side of a place, or None for a border side."""
    _, wide, high, _, _ = fabric
    across = x + STEPS[side][0]
    down = y + STEPS[side][1]
    if 0 <= across < wide and 0 <= down < high:
        return (across, down)
    return None


def borders(fabric):
    """Returns the list of the border sides, in order."""
    return [(x, y, side) for x, y in places_of(fabric) for side in range(4) if beside(fabric, x, y, side) is None]


def empty(fabric):
    """Returns a new setting in which all numbers are 0."""
    _, _, _, tracks, pins = fabric
    return ("setting", 0, 0, 0, [0] * pins, [0] * (4 * tracks))


def check(config):
    """Returns None if a value of any kind is a config, otherwise raises KindError."""
    fault = _fault_of(config)
    if fault is not None:
        raise KindError(fault)


def places_of(fabric):
    """Returns the list of the places, in order."""
    _, wide, high, _, _ = fabric
    return [(x, y) for y in range(high) for x in range(wide)]


def is_border(fabric, told):
    """Returns whether a tuple of four integers is a border side with a track."""
    x, y, side, track = told
    _, wide, high, tracks, _ = fabric
    if x not in range(wide) or y not in range(high) or side not in range(4) or track not in range(tracks):
        return False
    return beside(fabric, x, y, side) is None


def is_fabric(told):
    """Returns whether a value of any kind is a fabric (point 14.1)."""
    if not _is_named(told, "fabric", 5):
        return False
    most = (MOST_PLACES, MOST_PLACES, MOST_TRACKS, MOST_PINS)
    return all([_is_number(number, 1, high) for number, high in zip(told[1:], most)])


def greatest_tap(fabric):
    """Returns the greatest code of a tap."""
    return 1 + 4 * fabric[3]


def greatest_drive():
    """Returns the greatest code of a drive."""
    return 5


def _fault_of(config):
    if not _is_named(config, "config", 5):
        return "config"
    _, fabric, settings, ins, outs = config
    if not isinstance(settings, list) or not isinstance(ins, list) or not isinstance(outs, list):
        return "config"
    if len(ins) > MOST_ENDS or len(outs) > MOST_ENDS:
        return "config"
    if not is_fabric(fabric):
        return "fabric"
    if len(settings) != fabric[1] * fabric[2]:
        return "settings"
    for number, setting in enumerate(settings):
        if not _is_setting(fabric, setting):
            return f"setting {number}"
    for word, ends in (("in", ins), ("out", outs)):
        for number, told in enumerate(ends):
            if not _is_end(fabric, told) or told in ends[:number]:
                return f"{word} {number}"
    return None


def _is_named(told, word, many):
    """Returns whether a value is a tuple of so many parts that begins with a word."""
    return isinstance(told, tuple) and len(told) == many and told[0] == word


def _is_number(told, low, high):
    """Returns whether a value is an integer, but neither True nor False, within these bounds."""
    return isinstance(told, int) and not isinstance(told, bool) and low <= told <= high


def _are_codes(told, many, high):
    return isinstance(told, list) and len(told) == many and all([_is_number(code, 0, high) for code in told])


def _is_setting(fabric, told):
    if not _is_named(told, "setting", 6):
        return False
    _, table, kept, start, taps, drives = told
    _, _, _, tracks, pins = fabric
    if not _is_number(table, 0, (1 << (1 << pins)) - 1) or not _is_number(kept, 0, 1) or not _is_number(start, 0, 1):
        return False
    return _are_codes(taps, pins, greatest_tap(fabric)) and _are_codes(drives, 4 * tracks, greatest_drive())


def _is_end(fabric, told):
    if not isinstance(told, tuple) or len(told) != 4:
        return False
    return all([_is_number(number, 0, MOST_PLACES) for number in told]) and is_border(fabric, told)
