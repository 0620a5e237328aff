"""Ways through a net that share no node, and cuts that stop all ways (section Coverings).

This is the search for a greatest flow: a node that ways may pass has two ends, told as 2 * node where they come in
and 2 * node + 1 where they go out, and each step between ends may be used once.
"""

from cellcloth.nets import base_of, needed

BEGIN = -1
END = -2


class Ways:
    """The search for ways from inputs and flops to a gate, in the nodes that the gate needs.

    A way passes nodes with labels of at most `most`; all others that the gate needs, and the gate, are where ways
    end.
    """

    def __init__(self, net, gate, labels, most):
        nodes = needed(net, [2 * gate])
        self.first = base_of(net)
        self.passed = {node: True for node in nodes if node != gate and labels[node] <= most}
        self.steps = {BEGIN: {}, END: {}}
        for node in self.passed:
            self.steps[2 * node] = {}
            self.steps[2 * node + 1] = {}
        for node in nodes:
            if node in self.passed:
                self._step(2 * node, 2 * node + 1)
            if node < self.first:
                self._step(BEGIN, 2 * node)
            else:
                for literal in net[3][node - self.first]:
                    self._step_up(literal >> 1, node)

    def found(self, many):
        """Finds so many ways, and returns whether there are."""
        return all([self._one_more() for _ in range(many)])

    def told(self):
        """Returns the ways that were found, as lists of nodes."""
        return [self._way_from(end >> 1) for end, is_free in self.steps[BEGIN].items() if not is_free]

    def cut(self):
        """Returns the ascending list of the nodes, next to the inputs, that stop all ways if none can be added."""
        reached = self._reached()
        # Where a way begins can always be reached, whether the step to it has been used or not.
        near = [node for node in self.passed if node < self.first or 2 * node in reached]
        return sorted([node for node in near if 2 * node + 1 not in reached])

    def _step_up(self, below, node):
        if below in self.passed:
            self._step(2 * below + 1, 2 * node if node in self.passed else END)

    def _step(self, here, there):
        # A step back can be used once the step there has been used.
        self.steps[here][there] = True
        self.steps[there][here] = False

    def _reached(self):
        """Returns the ends that can be reached, each with the one before it."""
        before = {BEGIN: BEGIN}
        order = [BEGIN]
        at = 0
        while at < len(order) and END not in before:
            here = order[at]
            for there, is_free in self.steps[here].items():
                if is_free and there not in before:
                    before[there] = here
                    order.append(there)
            at += 1
        return before

    def _one_more(self):
        before = self._reached()
        if END not in before:
            return False
        there = END
        while there != BEGIN:
            here = before[there]
            self.steps[here][there] = False
            self.steps[there][here] = True
            there = here
        return True

    def _way_from(self, node):
        way = []
        while node != END >> 1:
            way.append(node)
            node = self._after(node)
        return way

    def _after(self, node):
        """Returns the node to which a way goes on, or half of END behind the last one."""
        for there, is_free in self.steps[2 * node + 1].items():
            if not is_free:
                return there >> 1
        return END >> 1
