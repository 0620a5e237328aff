"""Kinds: whether the expressions of places fit what they name and what they are for (point 04.3)."""

from cellcloth.errors import KindError
from cellcloth.terms import WIDEST
from cellcloth.words import MOVES, arguments_of, result_width


def check_kinds(place):
    """Raises KindError with the name of the first thing with a fault, in a place or in the places within."""
    for thing in place.things:
        _check_thing(place, thing)
        if thing.kind == "use":
            check_kinds(thing.inner)


def width_of(place, x):
    """Returns the width of an expression without a fault."""
    return _checked_width(place, x, "")


def _check_thing(place, thing):
    if thing.value is not None:
        _check_width(place, thing.value, thing.width, thing.name)
    if thing.kind == "mem":
        for enable, address, word in thing.writes:
            _check_width(place, enable, 1, thing.name)
            _checked_width(place, address, thing.name)
            _check_width(place, word, thing.width, thing.name)
    if thing.kind == "machine":
        for _, _, test in thing.moves:
            _check_width(place, test, 1, thing.name)
    if thing.kind == "use":
        _check_ports(place, thing)


def _check_ports(place, thing):
    """Looks whether each input is given once, and nothing else, each by a word of its width."""
    widths = {inner.short: inner.width for inner in thing.inner.things if inner.kind == "in"}
    if sorted([name for name, _ in thing.ports]) != sorted(widths):
        raise KindError(thing.name)
    for name, x in thing.ports:
        _check_width(place, x, widths[name], thing.name)


def _check_width(place, x, width, name):
    if _checked_width(place, x, name) != width:
        raise KindError(name)


def _checked_width(place, x, name):
    """Returns the width of an expression; a fault in it raises KindError with the name."""
    kind = x[0]
    if kind == "word":
        return x[2]
    if kind == "op":
        return _op_width(x[1], [_checked_width(place, y, name) for y in x[2]], name)
    if kind == "cut":
        if x[2] + x[3] > _checked_width(place, x[1], name):
            raise KindError(name)
        return x[3]
    if kind == "join":
        width = sum([_checked_width(place, y, name) for y in x[1]])
        if not 1 <= width <= WIDEST:
            raise KindError(name)
        return width
    if kind == "choose":
        _check_width(place, x[1], 1, name)
        width = _checked_width(place, x[2], name)
        _check_width(place, x[3], width, name)
        return width
    return _named_width(place, x, name)


def _op_width(sign, widths, name):
    if len(widths) != arguments_of(sign):
        raise KindError(name)
    if len(widths) == 2 and sign not in MOVES and widths[0] != widths[1]:
        raise KindError(name)
    return result_width(sign, widths[0])


def _named_width(place, x, name):
    """Returns the width of a `ref`, `port`, `is` or `read`."""
    if x[0] == "ref":
        return _found(place, x[1], ("in", "let", "reg"), name).width
    if x[0] == "port":
        inner = _found(place, x[1], ("use",), name).inner
        return _found(inner, (x[2], ()), ("out",), name).width
    if x[0] == "is":
        if x[2] not in _found(place, x[1], ("machine",), name).states:
            raise KindError(name)
        return 1
    _checked_width(place, x[2], name)
    return _found(place, x[1], ("mem",), name).width


def _found(place, reference, kinds, name):
    thing = place.named.get(reference)
    if thing is None or thing.kind not in kinds:
        raise KindError(name)
    return thing
