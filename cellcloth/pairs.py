"""Pairs of states of two nets that can be reached together, for all inputs at once (points 23.3 to 23.5).

Columns go over the numbers of all inputs. A pair of states is told as a string of the digits of its bits, those of
the first net first.
"""

from cellcloth.columns import columns_of, counting_columns, with_gates
from cellcloth.errors import LimitError

MOST_INPUTS = 10
MOST_PAIRS = 4096


class Pairs:
    """Two nets side by side, with equal numbers of inputs and of outs."""

    def __init__(self, net, other):
        self.nets = (net, other)
        self.inputs = counting_columns(net[1])
        self.many = 1 << net[1]
        self.first = digits_of(net[2] + other[2])

    def columns_at(self, pair):
        """Returns the columns of the outs and of the nexts, both of the first and of the second net."""
        ones = (1 << self.many) - 1
        outs = []
        nexts = []
        for net, state in zip(self.nets, self.both_states(pair)):
            columns = with_gates(net, [*self.inputs, *[ones if bit == 1 else 0 for bit in state]], ones)
            outs.append(columns_of(columns, net[5], ones))
            nexts.append(columns_of(columns, net[4], ones))
        return outs, nexts

    def both_states(self, pair):
        """Returns the two states of a pair."""
        many = len(self.nets[0][2])
        bits = [1 if digit == "1" else 0 for digit in pair]
        return bits[:many], bits[many:]

    def followers(self, nexts):
        """Returns a dict of the pairs that follow, each with the least number of inputs that leads to it, ascending."""
        texts = [f"{column:b}".zfill(self.many)[::-1] for column in nexts[0] + nexts[1]]
        found = {}
        for number, digits in enumerate(zip(*texts)):
            found.setdefault("".join(digits), number)
        return found


def explored(net, other):
    """Returns what is told of two nets by the pairs of states that can be reached; raises LimitError."""
    pairs = Pairs(net, other)
    # For each pair the one before it, and the number of the inputs that led from there.
    before = {pairs.first: None}
    order = [pairs.first]
    is_whole = True
    at = 0
    while at < len(order):
        here = order[at]
        outs, nexts = pairs.columns_at(here)
        at += 1
        differing = _first_difference(outs)
        if differing is not None:
            return ("other", [bits_of_number(number, net[1]) for number in [*_way_to(before, here), differing]])
        # Pairs that are known by now may still show a difference, but no more are taken in.
        followers = pairs.followers(nexts) if is_whole else {}
        for pair, number in followers.items():
            if pair not in before and len(order) < MOST_PAIRS:
                before[pair] = (here, number)
                order.append(pair)
            elif pair not in before:
                is_whole = False
    if not is_whole:
        raise LimitError("states")
    return ("same", ("states", [list(pairs.both_states(pair)) for pair in order]))


def states_right(net, other, told):
    """Returns whether a list of pairs of states is right (point 23.3)."""
    wide = (len(net[2]), len(other[2]))
    if net[1] > MOST_INPUTS or any([len(pair) != 2 for pair in told]):
        return False
    for pair in told:
        for state, many in zip(pair, wide):
            if len(state) != many or any([bit not in (0, 1) for bit in state]):
                return False
    pairs = Pairs(net, other)
    known = {digits_of(state + other_state): True for state, other_state in told}
    if pairs.first not in known:
        return False
    for pair in known:
        outs, nexts = pairs.columns_at(pair)
        if _first_difference(outs) is not None or any([after not in known for after in pairs.followers(nexts)]):
            return False
    return True


def digits_of(bits):
    """Returns the string of the digits of bits."""
    return "".join([str(bit) for bit in bits])


def bits_of_number(number, many):
    """Returns so many bits of a number, the low one first."""
    return [(number >> at) & 1 for at in range(many)]


def _way_to(before, pair):
    """Returns the numbers of the inputs that lead to a pair."""
    numbers = []
    while before[pair] is not None:
        pair, number = before[pair]
        numbers.append(number)
    return numbers[::-1]


def _first_difference(outs):
    """Returns the least number of inputs for which both nets tell other bits, or None."""
    differ = 0
    for one, other in zip(outs[0], outs[1]):
        differ |= one ^ other
    return None if differ == 0 else (differ & -differ).bit_length() - 1
