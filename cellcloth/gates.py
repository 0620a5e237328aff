"""Gates for words: from a flat circuit to its net (section Gates for words)."""

from cellcloth.arith import alternatives, calculated, constant, read_word, written_words
from cellcloth.words import joined


class Builder:
    """A net that is made, gate by gate, with so many inputs and flops with these starts."""

    def __init__(self, ins, starts):
        self.ins = ins
        self.starts = list(starts)
        self.gates = []
        self.known = {}

    def both(self, a, b):
        """Returns a literal that has the value 1 exactly if both literals have it."""
        told = self.standing(a, b)
        if told is not None:
            return told
        told = 2 * (1 + self.ins + len(self.starts) + len(self.gates))
        pair = (min(a, b), max(a, b))
        self.gates.append(pair)
        self.known[pair] = told
        return told

    def standing(self, a, b):
        """Returns what stands for a gate with these two literals without a new gate, or None."""
        low = min(a, b)
        high = max(a, b)
        if low == 0 or low == high ^ 1:
            return 0
        if low == 1 or low == high:
            return high
        return self.known.get((low, high))

    def net(self, nexts, outs):
        """Returns the net that has been made, with these nexts and outs."""
        return ("net", self.ins, list(self.starts), list(self.gates), list(nexts), list(outs))


def blast(flat):
    """Returns the net of a flat circuit."""
    _, inputs, registers, memories, wires, outputs = flat
    starts = [bit for _, width, start, _ in registers for bit in _bits(start, width)]
    starts.extend([0] * sum([width * depth for _, width, depth, _ in memories]))
    made = Builder(sum([width for _, width in inputs]), starts)
    node = 1
    words = {}
    for name, width in inputs + [(name, width) for name, width, _, _ in registers]:
        words[name] = _literals(node, width)
        node += width
    kept = {}
    for name, width, depth, _ in memories:
        kept[name] = [_literals(node + k * width, width) for k in range(depth)]
        node += width * depth
    for name, _, e in wires:
        words[name] = _word_of(made, e, words, kept)
    nexts = _joined([_word_of(made, e, words, kept) for _, _, _, e in registers])
    for name, _, _, writes in memories:
        triples = [[_word_of(made, e, words, kept) for e in write] for write in writes]
        nexts.extend(_joined(written_words(made, kept[name], triples)))
    return made.net(nexts, _joined([_word_of(made, e, words, kept) for _, _, e in outputs]))


def bits_in(flat, words):
    """Returns the list of the input bits of a net for the words of the inputs of its flat circuit."""
    return [bit for (_, width), word in zip(flat[1], words) for bit in _bits(word, width)]


def words_out(flat, bits):
    """Returns the words of the outputs of a flat circuit for the bits that its net tells."""
    words = []
    at = 0
    for _, width, _ in flat[5]:
        words.append(joined([(1, bit) for bit in bits[at:at + width]]))
        at += width
    return words


def _bits(word, width):
    return [(word >> at) & 1 for at in range(width)]


def _literals(node, width):
    return [2 * (node + at) for at in range(width)]


def _joined(words):
    return [literal for word in words for literal in word]


def _word_of(made, e, words, kept):
    """Returns the literals of an expression, the low bit first."""
    kind = e[0]
    if kind == "const":
        return constant(e[2], e[1])
    if kind == "name":
        return words[e[2]]
    if kind == "op":
        return calculated(made, e[2], [_word_of(made, x, words, kept) for x in e[3]])
    if kind == "cut":
        return _word_of(made, e[2], words, kept)[e[3]:e[3] + e[1]]
    if kind == "join":
        return _joined([_word_of(made, x, words, kept) for x in e[2]])
    if kind == "choose":
        test, yes, no = [_word_of(made, x, words, kept) for x in e[2:]]
        return alternatives(made, test[0], yes, no)
    return read_word(made, kept[e[2]], _word_of(made, e[3], words, kept), e[1])
