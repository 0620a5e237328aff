"""The whole road, from a description to the bits of a machine (section The whole road)."""

from cellcloth.apart import first_rows
from cellcloth.bits import bits_of
from cellcloth.cells import packed
from cellcloth.columns import columns_of, columns_of_rows, counting_columns, with_gates
from cellcloth.cover import covered
from cellcloth.device import run
from cellcloth.elaborate import flat
from cellcloth.errors import FitError, LimitError
from cellcloth.gates import bits_in, blast, words_out
from cellcloth.merger import Merger
from cellcloth.place import placed
from cellcloth.retime import retimed
from cellcloth.route import routed
from cellcloth.sweep import swept, tidied

MOST_GATES = 200
FEW_BITS = 14


def road(description, fabric):
    """Returns the dossier of a description for a fabric (point 25.1)."""
    circuit = flat(description)
    net = blast(circuit)
    tidy = tidied(net)
    other = swept(tidy[0])
    small = tidied(other[0])
    if len(small[0][3]) > MOST_GATES:
        raise LimitError("gates")
    quick = retimed(small[0])
    last = tidied(quick[0])
    if fabric[4] < 2:
        raise FitError("pins")
    covering = covered(last[0], table_size(fabric))
    cells = packed(last[0], covering[0])
    plan = placed(cells, fabric)
    wires = routed(cells, fabric, plan)
    return {
        "description": description, "fabric": fabric, "flat": circuit, "net": net, "tidy": tidy, "swept": other,
        "small": small, "retimed": quick, "last": last, "covered": covering, "cells": cells, "plan": plan,
        "routed": wires, "bits": bits_of(wires[0]),
    }


def shown(dossier, rows):
    """Returns the rows of words that the machine of the bits of a dossier tells for rows of words."""
    circuit = dossier["flat"]
    return [words_out(circuit, bits) for bits in run(dossier["bits"], [bits_in(circuit, words) for words in rows])]


def agree(net, other):
    """Returns whether two nets agree (point 25.3)."""
    if net[1] != other[1] or net[2] != other[2] or len(net[5]) != len(other[5]):
        return False
    many = net[1] + len(net[2])
    if many <= FEW_BITS:
        columns = counting_columns(many)
        return _told_in(net, columns, 1 << many) == _told_in(other, columns, 1 << many)
    rows = first_rows(many)
    columns = columns_of_rows(rows, many)
    if _told_in(net, columns, len(rows)) != _told_in(other, columns, len(rows)):
        return False
    merger = Merger(net[1], net[2])
    return _merged(merger, net) == _merged(merger, other)


def table_size(fabric):
    """Returns how many nodes a table may have at most, for a fabric with 2 or more pins."""
    return min(fabric[4], 4)


def _told_in(net, columns, many):
    """Returns the columns of the nexts and outs in so many cases."""
    ones = (1 << many) - 1
    return columns_of(with_gates(net, columns, ones), net[4] + net[5], ones)


def _merged(merger, net):
    """Returns the literals of a merged net that have the values of the nexts and outs of a net."""
    images = merger.images_of(net)
    return [images[literal >> 1] ^ (literal & 1) for literal in net[4] + net[5]]
