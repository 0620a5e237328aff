"""What a flat circuit means: its cycles (chapter 05)."""

from cellcloth.memory import word_at, words_after
from cellcloth.words import calculate, cut_word, joined


def start(flat):
    """Returns the first state of a flat circuit."""
    _, _, registers, memories, _, _ = flat
    return ("state", [first for _, _, first, _ in registers], [[0] * depth for _, _, depth, _ in memories])


def step(flat, state, words):
    """Returns the row of outputs for a row of inputs, and the next state."""
    _, inputs, registers, memories, wires, outputs = flat
    values = {name: word for (name, _), word in zip(inputs, words)}
    values.update({name: word for (name, _, _, _), word in zip(registers, state[1])})
    kept = {name: row for (name, _, _, _), row in zip(memories, state[2])}
    for name, _, e in wires:
        values[name] = _word_of(e, values, kept)
    row = _words_of([told for _, _, told in outputs], values, kept)
    next_words = _words_of([told for _, _, _, told in registers], values, kept)
    next_rows = [_next_row(memory, values, kept) for memory in memories]
    return row, ("state", next_words, next_rows)


def run(flat, rows):
    """Returns the list of the rows of outputs for rows of inputs, from the first state on."""
    told = []
    state = start(flat)
    for words in rows:
        row, state = step(flat, state, words)
        told.append(row)
    return told


def _next_row(memory, values, kept):
    name, _, _, writes = memory
    return words_after(kept[name], [_words_of(write, values, kept) for write in writes])


def _words_of(expressions, values, kept):
    return [_word_of(e, values, kept) for e in expressions]


def _word_of(e, values, kept):
    """Returns the word of an expression, for dicts of the words and of the memories by their names."""
    kind = e[0]
    if kind == "const":
        return e[2]
    if kind == "name":
        return values[e[2]]
    if kind == "op":
        return calculate(e[2], e[3][0][1], _words_of(e[3], values, kept))
    if kind == "cut":
        return cut_word(_word_of(e[2], values, kept), e[3], e[1])
    if kind == "join":
        return joined([(x[1], _word_of(x, values, kept)) for x in e[2]])
    if kind == "choose":
        chosen = e[3] if _word_of(e[2], values, kept) == 1 else e[4]
        return _word_of(chosen, values, kept)
    return word_at(kept[e[2]], _word_of(e[3], values, kept))
