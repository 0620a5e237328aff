"""Whether two nets show the same (chapter 23)."""

from cellcloth.alike import clauses_paper, clauses_right
from cellcloth.errors import LimitError
from cellcloth.nets import step
from cellcloth.pairs import MOST_INPUTS, explored, states_right


def judge(net, other):
    """Returns ("same", paper), or ("other", rows) with the shortest run that shows a difference."""
    paper = clauses_paper(net, other)
    if paper is not None:
        return ("same", paper)
    if net[1] > MOST_INPUTS:
        raise LimitError("inputs")
    return explored(net, other)


def judge_right(net, other, told):
    """Returns whether what is told of two nets is right (points 23.2 to 23.4)."""
    if told[0] == "other":
        return _shows_difference(net, other, told[1])
    paper = told[1]
    if paper[0] == "states":
        return states_right(net, other, paper[1])
    return clauses_right(net, other, paper[1], paper[2])


def _shows_difference(net, other, rows):
    """Returns whether two nets tell the same in all cycles of a run but the last one, and not in that one."""
    if any([len(bits) != net[1] or any([bit not in (0, 1) for bit in bits]) for bits in rows]):
        return False
    state = net[2]
    other_state = other[2]
    for at, bits in enumerate(rows):
        told, state = step(net, state, bits)
        other_told, other_state = step(other, other_state, bits)
        if told != other_told:
            return at == len(rows) - 1
    return False
