"""Descriptions of many forms without faults, made from a seed."""

from random import Random

OF_THE_WIDTH = ("and", "or", "xor", "add", "sub", "mul")


class Scope:
    """What the expressions of a part may name: words as pairs of an expression and a width."""

    def __init__(self, numbers):
        self.numbers = numbers
        self.words = []
        self.memories = []
        self.machines = []


class Maker:
    def __init__(self, seed):
        self.random = Random(seed)
        self.parts = []
        self.facts = {}

    def description(self):
        many = self.random.randint(1, 4)
        for level in range(many):
            self.part(f"p{level}", level)
        name = f"p{many - 1}"
        return ("description", tuple(self.parts), name, tuple(self.facts[name]["numbers"]))

    def part(self, name, level):
        parameters = self.random.sample(["W", "V", "N"], self.random.randint(0, 3))
        numbers = [self.random.randint(-3, 9) for _ in parameters]
        scope = Scope(dict(zip(parameters, numbers)))
        facts = {"numbers": numbers, "inputs": [], "outputs": []}
        items = []
        for k in range(self.random.randint(0, 3)):
            width = self.random.randint(1, 6)
            items.append(("in", f"a{k}", self.amount(width, scope)))
            facts["inputs"].append((f"a{k}", width))
            scope.words.append((("ref", (f"a{k}", ())), width))
        later = []
        for k in range(self.random.randint(1, 7)):
            makers = [self.wire, self.wire, self.wires, self.register, self.memory, self.machine]
            if level > 0:
                makers += [self.place, self.place]
            self.random.choice(makers)(k, scope, items, later)
        for k in range(self.random.randint(1, 3)):
            width = self.random.randint(1, 8)
            items.append(("out", f"s{k}", self.amount(width, scope), self.expression(width, 3, scope)))
            facts["outputs"].append((f"s{k}", width))
        # What registers, memories and machines take next may name anything.
        for make in later:
            items.append(make())
        self.random.shuffle(items)
        self.parts.append(("part", name, tuple(parameters), tuple(self.wrapped(items, scope))))
        self.facts[name] = facts

    def wrapped(self, items, scope):
        """Some of the items within choices or rows that make them once."""
        found = []
        for item in items:
            form = self.random.randint(0, 9)
            if form == 0:
                item = ("if", self.amount(self.random.choice((1, -2, 7)), scope), (item,), (("in", "junk", 99),))
            elif form == 1:
                item = ("if", self.amount(0, scope), (("use", ("junk", ()), "none", (), ()),), (item,))
            elif form == 2:
                item = ("rows", "q", self.amount(4, scope), self.amount(5, scope), (item,))
            elif form == 3:
                found.append(("rows", "W", 5, self.amount(self.random.randint(0, 5), scope), (item,)))
            found.append(item)
        return found

    def wire(self, k, scope, items, later):
        width = self.random.randint(1, 8)
        reference = self.reference(f"w{k}", scope)
        items.append(("let", reference, self.amount(width, scope), self.expression(width, 3, scope)))
        scope.words.append((("ref", reference), width))

    def wires(self, k, scope, items, later):
        width = self.random.randint(1, 5)
        low = self.random.randint(-2, 3)
        high = low + self.random.randint(1, 4)
        first = (f"x{k}", (self.amount(low - 1, scope),))
        items.append(("let", first, width, self.expression(width, 2, scope)))
        sign = self.random.choice(OF_THE_WIDTH)
        before = ("ref", (f"x{k}", (("sub", "i", 1),)))
        here = ("let", (f"x{k}", ("i",)), self.amount(width, scope),
                ("op", sign, (before, ("word", ("mul", "i", 3), width))))
        items.append(("rows", "i", self.amount(low, scope), self.amount(high, scope), (here,)))
        for index in range(low - 1, high):
            scope.words.append((("ref", (f"x{k}", (index,))), width))

    def register(self, k, scope, items, later):
        width = self.random.randint(1, 5)
        reference = self.reference(f"r{k}", scope)
        start = self.amount(self.random.randint(-40, 40), scope)
        scope.words.append((("ref", reference), width))
        later.append(lambda: ("reg", reference, self.amount(width, scope), start, self.expression(width, 3, scope)))

    def memory(self, k, scope, items, later):
        width = self.random.randint(1, 3)
        depth = self.random.randint(1, 5)
        reference = self.reference(f"m{k}", scope)
        scope.memories.append((reference, width))
        many = self.random.randint(0, 3)
        later.append(lambda: ("mem", reference, self.amount(width, scope), self.amount(depth, scope), tuple(
            (self.expression(1, 2, scope), self.expression(self.random.randint(1, 4), 2, scope),
             self.expression(width, 2, scope)) for _ in range(many))))

    def machine(self, k, scope, items, later):
        states = tuple(f"z{at}" for at in range(self.random.randint(1, 5)))
        reference = self.reference(f"f{k}", scope)
        scope.machines.append((reference, states))
        many = self.random.randint(0, 6)
        later.append(lambda: ("machine", reference, states, tuple(
            (self.random.choice(states), self.random.choice(states), self.expression(1, 2, scope))
            for _ in range(many))))

    def place(self, k, scope, items, later):
        name = self.random.choice(self.parts)[1]
        facts = self.facts[name]
        reference = self.reference(f"u{k}", scope)
        ports = [(port, self.expression(width, 2, scope)) for port, width in facts["inputs"]]
        self.random.shuffle(ports)
        numbers = tuple(self.amount(number, scope) for number in facts["numbers"])
        items.append(("use", reference, name, numbers, tuple(ports)))
        for port, width in facts["outputs"]:
            scope.words.append((("port", reference, port), width))

    def reference(self, name, scope):
        many = self.random.choice((0, 0, 1, 2))
        return (name, tuple(self.amount(self.random.randint(-2, 5), scope) for _ in range(many)))

    def amount(self, number, scope):
        form = self.random.randint(0, 9)
        other = self.random.randint(-5, 5)
        if form == 0:
            return ("add", other, number - other)
        if form == 1:
            return ("sub", number + other, other)
        if form == 2 and scope.numbers:
            name = self.random.choice(sorted(scope.numbers))
            # Rows that hide W are around some items.
            if name != "W":
                return ("sub", name, scope.numbers[name] - number)
        if form == 3:
            return ("max", number, ("min", number, other))
        if form == 4 and other != 0:
            return ("div", ("mul", number, other), other)
        return number

    def word(self, width, scope):
        return ("word", self.amount(self.random.randint(-300, 300), scope), self.amount(width, scope))

    def expression(self, width, depth, scope):
        fitting = [x for x, other in scope.words if other == width]
        if depth == 0 or self.random.randint(0, 5) == 0:
            return self.random.choice(fitting) if fitting else self.word(width, scope)
        forms = ["word", "two", "two", "not", "move", "choose", "cut", "join", "named", "named"]
        if width == 1:
            forms += ["one", "compare", "is"]
        return getattr(self, "make_" + self.random.choice(forms))(width, depth - 1, scope, fitting)

    def make_word(self, width, depth, scope, fitting):
        return self.word(width, scope)

    def make_named(self, width, depth, scope, fitting):
        memories = [reference for reference, other in scope.memories if other == width]
        if memories and self.random.randint(0, 1):
            address = self.expression(self.random.randint(1, 4), depth, scope)
            return ("read", self.random.choice(memories), address)
        return self.random.choice(fitting) if fitting else self.make_cut(width, depth, scope, fitting)

    def make_two(self, width, depth, scope, fitting):
        words = (self.expression(width, depth, scope), self.expression(width, depth, scope))
        return ("op", self.random.choice(OF_THE_WIDTH), words)

    def make_not(self, width, depth, scope, fitting):
        return ("op", "not", (self.expression(width, depth, scope),))

    def make_move(self, width, depth, scope, fitting):
        words = (self.expression(width, depth, scope), self.expression(self.random.randint(1, 4), depth, scope))
        return ("op", self.random.choice(("shl", "shr")), words)

    def make_choose(self, width, depth, scope, fitting):
        return ("choose", self.expression(1, depth, scope), self.expression(width, depth, scope),
                self.expression(width, depth, scope))

    def make_cut(self, width, depth, scope, fitting):
        more = self.random.randint(0, 16 - width)
        low = self.random.randint(0, more)
        word = self.expression(width + more, depth, scope)
        return ("cut", word, self.amount(low, scope), self.amount(width, scope))

    def make_join(self, width, depth, scope, fitting):
        words = []
        while width > 0:
            taken = self.random.randint(1, width)
            words.append(self.expression(taken, depth, scope))
            width -= taken
        return ("join", tuple(words))

    def make_one(self, width, depth, scope, fitting):
        word = self.expression(self.random.randint(1, 8), depth, scope)
        return ("op", self.random.choice(("any", "all", "odd")), (word,))

    def make_compare(self, width, depth, scope, fitting):
        wide = self.random.randint(1, 8)
        words = (self.expression(wide, depth, scope), self.expression(wide, depth, scope))
        return ("op", self.random.choice(("same", "less")), words)

    def make_is(self, width, depth, scope, fitting):
        if not scope.machines:
            return self.word(1, scope)
        reference, states = self.random.choice(scope.machines)
        return ("is", reference, self.random.choice(states))


def made(seed):
    """A description without faults; that of an equal seed is equal."""
    return Maker(seed).description()


def rows_for(seed, inputs, many):
    """Rows of words for inputs, pairs of a name and a width."""
    random = Random(seed)
    return [[random.randrange(2 ** width) for _, width in inputs] for _ in range(many)]
