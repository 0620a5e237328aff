"""What a tree of places has, all places within taken together."""

from cellcloth.terms import parts_of


def things_within(place):
    """Returns all things of the circuit and of the places within, as they were laid out.

    Each is a triple of the thing, its expression or None, and the place in which the names of the expression
    stand. The expression of an input is that of its port, which has its names in the place around.
    """
    return _things_of(place, None, {})


def _things_of(place, around, ports):
    found = []
    for thing in place.things:
        if thing.kind == "in" and around is not None:
            found.append((thing, ports[thing.short], around))
        else:
            found.append((thing, thing.value, place))
        if thing.kind == "use":
            found.extend(_things_of(thing.inner, place, dict(thing.ports)))
    return found


def named_thing(place, x):
    """Returns the thing that a `ref`, `port`, `read` or `is` in a place names."""
    thing = place.named[x[1]]
    return thing.inner.named[(x[2], ())] if x[0] == "port" else thing


def named_words(place, x):
    """Returns the names of the inputs, outputs, wires and registers in an expression, from left to right."""
    if x[0] in ("ref", "port"):
        return [named_thing(place, x).name]
    found = []
    for part in parts_of(x):
        found.extend(named_words(place, part))
    return found
