"""Amounts: the numbers of a description (point 02.2)."""

from cellcloth.errors import KindError, LimitError

LEAST = -1000000
GREATEST = 1000000


def amount(e, counters):
    """Returns the number of an amount, with a dict of the numbers of the names in it."""
    return amount_at(e, counters, "")


def amount_at(e, counters, place):
    """Returns the number of an amount; a KindError tells the place."""
    number = _number_of(e, counters, place)
    if not LEAST <= number <= GREATEST:
        raise LimitError("amount")
    return number


def amount_within(e, counters, place, low, high):
    """Returns the number of an amount that has to be from low to high."""
    number = amount_at(e, counters, place)
    if not low <= number <= high:
        raise KindError(place)
    return number


def _number_of(e, counters, place):
    if isinstance(e, int):
        return e
    if isinstance(e, str):
        if e not in counters:
            raise KindError(place)
        return counters[e]
    first = amount_at(e[1], counters, place)
    if e[0] == "bits":
        if first < 0:
            raise KindError(place)
        return max(1, first.bit_length())
    second = amount_at(e[2], counters, place)
    if e[0] in ("div", "mod") and second == 0:
        raise KindError(place)
    return _operated(e[0], first, second)


def _operated(op, first, second):
    if op == "add":
        return first + second
    if op == "sub":
        return first - second
    if op == "mul":
        return first * second
    if op == "div":
        return first // second
    if op == "mod":
        return first % second
    if op == "max":
        return max(first, second)
    if op == "min":
        return min(first, second)
    if op == "less":
        return 1 if first < second else 0
    return 1 if first == second else 0
