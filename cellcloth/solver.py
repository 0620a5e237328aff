"""Clauses: choices that keep them, and proofs that none does (section Clauses and proofs)."""

from cellcloth.nets import base_of
from cellcloth.search import Search
from cellcloth.units import Units


def solve(clauses, many):
    """Returns ("yes", bits) with bits for the variables that keep all clauses, or ("no", proof)."""
    search = Search(many, clauses)
    if search.finds():
        return ("yes", search.bits())
    return ("no", search.proof)


def proof_right(clauses, proof):
    """Returns whether a list of clauses is a proof for the clauses."""
    return Units(clauses).proves(proof)


def net_clauses(net):
    """Returns the list of the clauses of a net, gate by gate."""
    clauses = [[-1]]
    variable = base_of(net)
    for pair in net[3]:
        variable += 1
        clauses.extend(gate_clauses(variable, integer_of(pair[0]), integer_of(pair[1])))
    return clauses


def gate_clauses(variable, x, y):
    """Returns the clauses of a gate with a variable, for the integers of its two literals."""
    return [[-variable, x], [-variable, y], [variable, -x, -y]]


def integer_of(literal):
    """Returns the integer of a literal."""
    variable = (literal >> 1) + 1
    return -variable if literal & 1 else variable
