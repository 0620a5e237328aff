"""Nets of many forms, made from a seed, and what can be told of small ones by trying all."""

from itertools import product
from random import Random

from cellcloth.nets import values


def made_net(seed, ins, flops, gates, outs, near=None):
    """A net without faults; with `near`, its gates mostly take literals of the last so many nodes below them."""
    random = Random(seed)
    base = 1 + ins + flops

    def literal(below):
        if near is not None and below > base and random.random() < 0.8:
            return 2 * random.randrange(max(base, below - near), below) + random.randint(0, 1)
        if flops and random.random() < 0.2:
            return 2 * (1 + ins + random.randrange(flops)) + random.randint(0, 1)
        return random.randrange(2 * below)

    pairs = [(literal(base + k), literal(base + k)) for k in range(gates)]
    nodes = base + gates
    return ("net", ins, [random.randint(0, 1) for _ in range(flops)], pairs,
            [literal(nodes) for _ in range(flops)], [random.randrange(2 * nodes) for _ in range(outs)])


def small_nets(many, gates=12, ins=3, flops=3, outs=3):
    """Many small nets of different sizes."""
    for seed in range(many):
        random = Random(seed)
        yield made_net(seed, random.randint(0, ins), random.randint(0, flops), random.randint(0, gates),
                       random.randint(0, outs), random.choice((None, None, 2, 4)))


def all_rows(net):
    """All pairs of a state and input bits."""
    for state in product((0, 1), repeat=len(net[2])):
        for bits in product((0, 1), repeat=net[1]):
            yield list(state), list(bits)


def columns(net):
    """For each node the tuple of its values for all states and inputs."""
    return list(zip(*[values(net, state, bits) for state, bits in all_rows(net)]))


def random_rows(seed, ins, many):
    """Rows of input bits."""
    random = Random(seed)
    return [[random.randint(0, 1) for _ in range(ins)] for _ in range(many)]
