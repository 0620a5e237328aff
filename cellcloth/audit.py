"""The audit of a dossier, whoever made it (section The audit)."""

from cellcloth.bits import bits_of
from cellcloth.cells import packed
from cellcloth.cover import covered_right
from cellcloth.elaborate import flat
from cellcloth.errors import ClothError
from cellcloth.gates import blast
from cellcloth.nets import fault_of
from cellcloth.place import misfit, plan_right
from cellcloth.retime import retimed_right
from cellcloth.road import MOST_GATES, agree, table_size
from cellcloth.route import routed_right
from cellcloth.sweep import swept_right, tidied

KEYS = (
    "flat", "net", "tidy", "swept", "small", "retimed", "last", "covered", "cells", "plan", "routed", "bits",
)


def audit(dossier):
    """Returns the key of the first step of a dossier that is not right, or None (points 26.1 and 26.2)."""
    for key in KEYS:
        look = LOOKS[key]
        if not look(dossier):
            return key
    return None


def _flat_right(dossier):
    try:
        return dossier["flat"] == flat(dossier["description"])
    except ClothError:
        return False


def _net_right(dossier):
    net = dossier["net"]
    wanted = blast(dossier["flat"])
    return net[1] == wanted[1] and fault_of(net) is None and agree(net, wanted)


def _tidy_right(dossier):
    return dossier["tidy"] == tidied(dossier["net"])


def _swept_right(dossier):
    other, paper = dossier["swept"]
    return swept_right(dossier["tidy"][0], other, paper)


def _small_right(dossier):
    return dossier["small"] == tidied(dossier["swept"][0])


def _retimed_right(dossier):
    small = dossier["small"][0]
    other, paper = dossier["retimed"]
    return len(small[3]) <= MOST_GATES and retimed_right(small, other, paper)


def _last_right(dossier):
    return dossier["last"] == tidied(dossier["retimed"][0])


def _covered_right(dossier):
    tables, paper = dossier["covered"]
    fabric = dossier["fabric"]
    return fabric[4] >= 2 and covered_right(dossier["last"][0], table_size(fabric), tables, paper)


def _cells_right(dossier):
    return dossier["cells"] == packed(dossier["last"][0], dossier["covered"][0])


def _plan_right(dossier):
    cells = dossier["cells"]
    fabric = dossier["fabric"]
    return misfit(cells, fabric) is None and plan_right(cells, fabric, dossier["plan"])


def _routed_right(dossier):
    config, paper = dossier["routed"]
    return routed_right(dossier["cells"], dossier["fabric"], dossier["plan"], config, paper)


def _bits_right(dossier):
    return dossier["bits"] == bits_of(dossier["routed"][0])


LOOKS = {
    "flat": _flat_right, "net": _net_right, "tidy": _tidy_right, "swept": _swept_right, "small": _small_right,
    "retimed": _retimed_right, "last": _last_right, "covered": _covered_right, "cells": _cells_right,
    "plan": _plan_right, "routed": _routed_right, "bits": _bits_right,
}
