"""Gates with variables of their own, which all become literals of one merged net, and clauses that show it.

The clauses follow plainly from those of the gates (point 9.4) and from those that say what the other variables are.
"""

from cellcloth.merger import Merger


class Joint:
    """A merged net of so many inputs and flops, and the variables that have its values.

    `images` has for each variable its literal in the merged net. `homes` has for each node of the merged net an
    integer that always has its value. `steps` has for each variable of a gate what shows its image: None or a kept
    proof of the merger, and the variables of which this has to be shown before.
    """

    def __init__(self, ins, flops):
        self.merger = Merger(ins, [0] * flops)
        self.images = {}
        self.homes = {}
        self.firsts = {}
        self.steps = {}

    def put_base(self, variable, literal):
        """Puts in a variable that has the value of a literal of node 0, an input or a flop."""
        self.images[variable] = literal
        self.homes.setdefault(literal >> 1, variable if literal & 1 == 0 else -variable)

    def put_gate(self, variable, x, y):
        """Puts in a gate with a variable, for the integers of its two literals."""
        a = self.image(x)
        b = self.image(y)
        pair = (min(a, b), max(a, b))
        image, kept = self.merger.image(a, b)
        self.images[variable] = image
        needs = [abs(x), abs(y)]
        if image >> 1 not in self.homes:
            self.homes[image >> 1] = variable
        elif pair in self.firsts:
            kept = None
            needs.append(self.firsts[pair])
        elif kept is not None:
            needs.extend([abs(self.homes[node]) for node in kept[1] if node != -1])
        needs.append(abs(self.homes[image >> 1]))
        self.firsts.setdefault(pair, variable)
        self.steps[variable] = (kept, needs)

    def image(self, integer):
        """Returns the literal that an integer has become."""
        literal = self.images[abs(integer)]
        return literal if integer > 0 else literal ^ 1

    def lemmas(self, integers):
        """Returns clauses that show of integers what they have become."""
        wanted = {}
        stack = [abs(integer) for integer in integers]
        while stack:
            variable = stack.pop()
            if variable in self.steps and variable not in wanted:
                wanted[variable] = True
                stack.extend(self.steps[variable][1])
        clauses = []
        for variable in self.steps:
            if variable in wanted:
                clauses.extend(self._shown(variable))
        return clauses

    def _shown(self, variable):
        """Returns clauses that show of the variable of a gate that it has the value of its home."""
        literal = self.images[variable]
        home = self.homes[literal >> 1]
        if home == variable:
            return []
        other = home if literal & 1 == 0 else -home
        kept = self.steps[variable][0]
        if kept is None:
            return [[-variable, other], [variable, -other]]
        proof, nodes = kept
        names = [0] + [variable if node == -1 else self.homes[node] for node in nodes]
        clauses = [[names[v] if v > 0 else -names[-v] for v in clause] for clause in proof]
        # The proof holds for one and for the other way in which both could differ.
        return [clause + [-variable, other] for clause in clauses] + [clause + [variable, -other] for clause in clauses]
