"""Expressions whose amounts are worked out, and what they consist of."""

from cellcloth.amounts import amount_at, amount_within

WIDEST = 16


def settled(x, counters, place):
    """Returns an expression with all amounts and indexes as integers; a KindError tells the place."""
    kind = x[0]
    if kind == "word":
        number = amount_at(x[1], counters, place)
        return ("word", number, amount_within(x[2], counters, place, 1, WIDEST))
    if kind == "op":
        return ("op", x[1], _all_settled(x[2], counters, place))
    if kind == "cut":
        word = settled(x[1], counters, place)
        low = amount_within(x[2], counters, place, 0, WIDEST)
        return ("cut", word, low, amount_within(x[3], counters, place, 1, WIDEST))
    if kind == "join":
        return ("join", _all_settled(x[1], counters, place))
    if kind == "choose":
        return ("choose", *_all_settled(x[1:], counters, place))
    reference = settled_reference(x[1], counters, place)
    if kind == "ref":
        return ("ref", reference)
    if kind == "read":
        return ("read", reference, settled(x[2], counters, place))
    return (kind, reference, x[2])


def settled_reference(reference, counters, place):
    """Returns a reference with its indexes as integers; a KindError tells the place."""
    name, indexes = reference
    return (name, tuple([amount_at(e, counters, place) for e in indexes]))


def parts_of(x):
    """Returns the expressions directly within an expression, from left to right."""
    kind = x[0]
    if kind == "op":
        return x[2]
    if kind == "join":
        return x[1]
    if kind == "choose":
        return x[1:]
    if kind == "cut":
        return (x[1],)
    return (x[2],) if kind == "read" else ()


def _all_settled(expressions, counters, place):
    return tuple([settled(x, counters, place) for x in expressions])
