"""Moved flops: the least period, and its paper (section Moved flops)."""

from cellcloth.lags import Wires, added, lags_or_circle, left_of, origin_of, right_of
from cellcloth.mover import Mover


def origin(net, literal):
    """Returns the literal of the origin that a literal comes to, the weight, and the list of its first values."""
    return origin_of(net, literal)


def period(net, lags):
    """Returns the period of lags that keep point 11.2."""
    return _period_of(Wires(net), lags)


def moved(net, lags):
    """Returns the net in which flops are moved by lags (point 11.4)."""
    wires = Wires(net)
    all_lags = wires.all_lags(lags)
    levels = wires.new_levels(all_lags)
    order = [gate for _, gate in sorted([(levels[gate], gate) for gate in wires.gates])]
    mover = Mover(wires, all_lags)
    ends = [mover.end(wire, gate) for gate in order for wire in wires.pairs[gate]]
    out_ends = [mover.end(origin_of(net, literal), 0) for literal in net[5]]
    numbers = mover.all_numbers(order)
    literals = [_literal(numbers, end) for end in ends]
    gates = list(zip(literals[::2], literals[1::2]))
    outs = [_literal(numbers, end) for end in out_ends]
    return ("net", net[1], mover.all_starts(), gates, mover.all_nexts(numbers), outs)


def retimed(net):
    """Returns the moved net for lags of the least period, and a paper: the lags and a circle of demands."""
    wires = Wires(net)
    lags = [0] * len(wires.gates)
    best = _period_of(wires, lags)
    too_little = 0
    best_circle = None
    while best > too_little + 1:
        most = (best + too_little) // 2
        found, circle = lags_or_circle(wires, most)
        if found is None:
            too_little = most
            best_circle = circle
        else:
            lags = found
            best = _period_of(wires, lags)
    return moved(net, lags), (lags, best_circle)


def retimed_right(net, other, paper):
    """Returns whether a paper is right for a net and another one (point 11.7)."""
    lags, circle = paper
    wires = Wires(net)
    if not wires.allowed(lags) or other != moved(net, lags):
        return False
    reached = _period_of(wires, lags)
    if circle is None:
        return reached <= 1
    return _is_circle(wires, circle, reached - 1)


def _period_of(wires, lags):
    levels = wires.new_levels(wires.all_lags(lags))
    return max([0] + list(levels.values()))


def _literal(numbers, end):
    kept, odd = end
    return 2 * numbers[kept] + odd


def _is_circle(wires, demands, most):
    """Returns whether a list is a circle of demands for a period."""
    if not demands or any([not _is_demand(wires, demand, most) for demand in demands]):
        return False
    for at, demand in enumerate(demands):
        if left_of(demands[at - 1]) != right_of(wires, demand):
            return False
    return sum([added(wires, demand) for demand in demands]) < 0


def _is_demand(wires, demand, most):
    """Returns whether a tuple of the form of a demand is one for a period."""
    if demand[0] == "zero":
        return demand[1] in wires.pairs
    if demand[0] == "wire":
        return demand[1] in wires.pairs and demand[2] in (0, 1)
    _, gates, pins = demand
    if len(gates) != len(pins) + 1 or len(gates) <= most:
        return False
    if any([gate not in wires.pairs for gate in gates]) or any([pin not in (0, 1) for pin in pins]):
        return False
    for before, gate, pin in zip(gates, gates[1:], pins):
        if wires.pairs[gate][pin][0] >> 1 != before:
            return False
    return True
