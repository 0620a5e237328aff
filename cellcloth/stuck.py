"""Stuck nodes: faults, tests that find them, and proofs that none does (section Stuck nodes)."""

from cellcloth.apart import first_rows
from cellcloth.faulty import answer_columns, faulty_columns, finding, sound_columns
from cellcloth.miter import Miter, moved_integer, test_or_proof
from cellcloth.nets import base_of, many_nodes
from cellcloth.solver import gate_clauses, integer_of, net_clauses, proof_right

FEW_BITS = 14


def faults(net):
    """Returns the list of all faults, ascending."""
    return [(node, bit) for node in range(1, many_nodes(net)) for bit in range(2)]


def answer(net, fault, test):
    """Returns the answer of a test with a fault, or without one for None."""
    columns = sound_columns(net, [test])
    if fault is not None:
        columns = faulty_columns(net, columns, fault, 1)
    told = answer_columns(net, columns, 1)
    return told[:len(net[5])], told[len(net[5]):]


def fault_clauses(net, fault):
    """Returns the list of the clauses of a fault (point 21.3)."""
    node, bit = fault
    many = many_nodes(net)
    base = base_of(net)
    clauses = net_clauses(net)
    for n in range(many):
        here = many + n + 1
        if n == node:
            clauses.append([here if bit == 1 else -here])
        elif n == 0:
            clauses.append([-here])
        elif n < base:
            clauses.extend([[-here, n + 1], [here, -n - 1]])
        else:
            x, y = [moved_integer(integer_of(literal), many) for literal in net[3][n - base]]
            clauses.extend(gate_clauses(here, x, y))
    differences = []
    for w, literal in enumerate(net[5] + net[4]):
        d = 2 * many + w + 1
        x = integer_of(literal)
        other = moved_integer(x, many)
        differences.append(d)
        clauses.extend([[-d, x, other], [-d, -x, -other]])
    return clauses + [differences]


def told(net, fault):
    """Returns what is right to tell of a fault: a test that finds it, or a proof that none does."""
    rows = _first_tests(net)
    found = finding(net, sound_columns(net, rows), fault, (1 << len(rows)) - 1)
    if found != 0:
        state, bits = [test for at, test in enumerate(rows) if (found >> at) & 1][0]
        return ("test", state, bits)
    test, proof = test_or_proof(net, fault)
    if test is None:
        return ("none", proof)
    return ("test", test[0], test[1])


def told_right(net, fault, told):
    """Returns whether what is told of a fault is right (point 21.4)."""
    if told[0] == "none":
        return proof_right(fault_clauses(net, fault), told[1])
    _, state, bits = told
    if len(state) != len(net[2]) or len(bits) != net[1]:
        return False
    return answer(net, fault, (state, bits)) != answer(net, None, (state, bits))


def tests(net):
    """Returns a lean list of tests."""
    rows = _first_tests(net)
    rows = rows + _further_tests(net, rows)
    ones = (1 << len(rows)) - 1
    columns = sound_columns(net, rows)
    found = {finding(net, columns, fault, ones): True for fault in faults(net)}
    chosen = _lean_choice([column for column in found if column != 0])
    return [test for at, test in enumerate(rows) if (chosen >> at) & 1]


def agreeing(net, sights):
    """Returns what agrees with sights: None for no fault, and faults, ascending."""
    columns = sound_columns(net, [test for test, _ in sights])
    ones = (1 << len(sights)) - 1
    wanted = _columns_seen(net, sights)
    if wanted is None:
        return []
    found = [None] if answer_columns(net, columns, ones) == wanted else []
    for fault in faults(net):
        if answer_columns(net, faulty_columns(net, columns, fault, ones), ones) == wanted:
            found.append(fault)
    return found


def _first_tests(net):
    """Returns tests that find most faults; if states and inputs are few, all tests."""
    _, ins, starts, _, _, _ = net
    many = ins + len(starts)
    if many <= FEW_BITS:
        rows = [[(number >> at) & 1 for at in range(many)] for number in range(1 << many)]
    else:
        rows = first_rows(many)
    return [(row[ins:], row[:ins]) for row in rows]


def _further_tests(net, rows):
    """Returns tests for the faults that are found by others than these alone."""
    if net[1] + len(net[2]) <= FEW_BITS:
        return []
    ones = (1 << len(rows)) - 1
    columns = sound_columns(net, rows)
    rest = [fault for fault in faults(net) if finding(net, columns, fault, ones) == 0]
    found = []
    miter = Miter(net)
    while rest:
        test = miter.test_for(rest[0])
        rest = rest[1:]
        if test is not None:
            found.append(test)
            columns = sound_columns(net, [test])
            rest = [fault for fault in rest if finding(net, columns, fault, 1) == 0]
    return found


def _lean_choice(wanted):
    """Returns a column of tests that meets all columns in a list, and none of its tests can be left out."""
    chosen = 0
    for column in wanted:
        if column & chosen == 0:
            # The lowest bit of the column.
            chosen |= column & -column
    many = chosen.bit_length()
    for at in range(many):
        without = chosen ^ (1 << at)
        if (chosen >> at) & 1 and all([column & without for column in wanted]):
            chosen = without
    return chosen


def _columns_seen(net, sights):
    """Returns the columns of the answers in sights, of the outs and then of the nexts; None if an answer is none."""
    columns = [0] * (len(net[5]) + len(net[4]))
    for at, (_, (outs, nexts)) in enumerate(sights):
        if len(outs) != len(net[5]) or len(nexts) != len(net[4]):
            return None
        for k, bit in enumerate([*outs, *nexts]):
            columns[k] |= bit << at
    return columns
