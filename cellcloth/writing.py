"""Writing: from a description to its text (point 03.4)."""

SIGN_TEXTS = {
    "and": "&", "or": "|", "xor": "^", "add": "+", "sub": "-", "mul": "*",
    "same": "==", "less": "<", "shl": "<<", "shr": ">>",
}


def written(description):
    """Returns the text of a description."""
    _, parts, name, numbers = description
    lines = []
    for part in parts:
        lines.append("part " + part[1] + _in_parentheses(part[2]) + " {")
        lines.extend(_item_lines(part[3]))
        lines.append("}")
    lines.append("top " + name + _in_parentheses([str(number) for number in numbers]) + ";")
    return "".join([line + "\n" for line in lines])


def _in_parentheses(texts):
    return "(" + ", ".join(texts) + ")"


def _deeper(lines):
    return ["  " + line for line in lines]


def _item_lines(items):
    """Returns the lines of the items of a block, which stands one block deeper than what is around it."""
    lines = []
    for item in items:
        write = LINES_OF[item[0]]
        lines.extend(_deeper(write(item)))
    return lines


def _word_lines(item):
    """Returns the lines of an input, an output, a wire or a register."""
    name = item[1] if item[0] in ("in", "out") else _reference(item[1])
    line = item[0] + " " + name + ": " + _amount(item[2])
    if item[0] == "reg":
        line += " from " + _amount(item[3])
    if item[0] != "in":
        line += " = " + _expression(item[-1])
    return [line + ";"]


def _memory_lines(item):
    _, reference, width, depth, writes = item
    lines = ["mem " + _reference(reference) + ": " + _amount(width) + " of " + _amount(depth) + " {"]
    for enable, address, word in writes:
        lines.append("  when " + _expression(enable) + " at " + _expression(address)
                     + " put " + _expression(word) + ";")
    return lines + ["}"]


def _use_lines(item):
    _, reference, part, numbers, ports = item
    called = part + _in_parentheses([_amount(e) for e in numbers])
    lines = ["use " + _reference(reference) + " = " + called + " {"]
    for name, x in ports:
        lines.append("  " + name + " = " + _expression(x) + ";")
    return lines + ["}"]


def _machine_lines(item):
    _, reference, states, moves = item
    lines = ["machine " + _reference(reference) + " {", "  " + ", ".join(states) + ";"]
    for first, second, x in moves:
        lines.append("  " + first + " to " + second + " when " + _expression(x) + ";")
    return lines + ["}"]


def _rows_lines(item):
    _, name, first, last, items = item
    head = "rows " + name + " from " + _amount(first) + " to " + _amount(last) + " {"
    return [head] + _item_lines(items) + ["}"]


def _choice_lines(item):
    _, test, items, others = item
    return ["if " + _amount(test) + " {"] + _item_lines(items) + ["} else {"] + _item_lines(others) + ["}"]


LINES_OF = {
    "in": _word_lines, "out": _word_lines, "let": _word_lines, "reg": _word_lines, "mem": _memory_lines,
    "use": _use_lines, "machine": _machine_lines, "rows": _rows_lines, "if": _choice_lines,
}


def _amount(e):
    if isinstance(e, int):
        return str(e)
    if isinstance(e, str):
        return e
    if e[0] == "bits":
        return "bits(" + _amount(e[1]) + ")"
    # An op that is also the name of a sign is written as the sign, any other one as its name.
    op = SIGN_TEXTS.get(e[0], e[0])
    return "(" + _amount(e[1]) + " " + op + " " + _amount(e[2]) + ")"


def _reference(reference):
    name, indexes = reference
    if len(indexes) == 0:
        return name
    return name + "[" + ", ".join([_amount(e) for e in indexes]) + "]"


def _expression(x):
    kind = x[0]
    if kind == "ref":
        return _reference(x[1])
    if kind == "port":
        return _reference(x[1]) + "." + x[2]
    if kind == "is":
        return _reference(x[1]) + " is " + x[2]
    if kind == "op":
        return _signed(x[1], [_expression(y) for y in x[2]])
    return kind + _in_parentheses(_arguments(x))


def _signed(sign, texts):
    if sign in SIGN_TEXTS:
        return "(" + texts[0] + " " + SIGN_TEXTS[sign] + " " + texts[1] + ")"
    return sign + _in_parentheses(texts)


def _arguments(x):
    """Returns the texts that stand in the parentheses of a word, cut, join, choose or read."""
    kind = x[0]
    if kind == "word":
        return [_amount(x[1]), _amount(x[2])]
    if kind == "cut":
        return [_expression(x[1]), _amount(x[2]), _amount(x[3])]
    if kind == "join":
        return [_expression(y) for y in x[1]]
    if kind == "read":
        return [_reference(x[1]), _expression(x[2])]
    return [_expression(y) for y in x[1:]]
