"""Reading: from a text to a description (chapter 03)."""

from cellcloth.errors import TextError
from cellcloth.tokens import Reader, tokens_of

OPS = {
    "+": "add", "-": "sub", "*": "mul", "div": "div", "mod": "mod",
    "max": "max", "min": "min", "<": "less", "==": "same",
}

SIGN_OF = {
    "&": "and", "|": "or", "^": "xor", "+": "add", "-": "sub", "*": "mul",
    "==": "same", "<": "less", "<<": "shl", ">>": "shr",
}


def parse(text):
    """Returns the description that a text writes."""
    reader = Reader(tokens_of(text))
    parts = []
    names = []
    while reader.ahead() == "part":
        part, line = _part(reader)
        parts.append(part)
        names.append((part[1], line))
    reader.take("top")
    name = reader.take_form("name")
    numbers = _listed(reader, _number)
    reader.take(";")
    reader.take_form("end")
    reader.note_twice(names)
    if reader.twice:
        raise TextError(min(reader.twice))
    return ("description", tuple(parts), name, numbers)


def _part(reader):
    """Returns a part, and the line of its name."""
    reader.take("part")
    name, line = _name_and_line(reader)
    parameters = _listed(reader, _name_and_line)
    reader.note_twice(parameters)
    reader.take("{")
    items = _up_to_brace(reader, _item)
    return ("part", name, tuple([parameter for parameter, _ in parameters]), items), line


def _name_and_line(reader):
    line = reader.here()
    return reader.take_form("name"), line


def _name(reader):
    return reader.take_form("name")


def _number(reader):
    return int(reader.take_form("number"))


def _several(reader, one):
    """Returns the tuple of what a function reads, once and again behind each comma."""
    found = [one(reader)]
    while reader.ahead() == ",":
        reader.take(",")
        found.append(one(reader))
    return tuple(found)


def _listed(reader, one):
    """Returns the tuple of what a function reads, in parentheses in which nothing may stand."""
    reader.take("(")
    found = () if reader.ahead() == ")" else _several(reader, one)
    reader.take(")")
    return found


def _up_to_brace(reader, one):
    """Returns the tuple of what a function reads, again and again up to a closing brace."""
    found = []
    while reader.ahead() != "}":
        found.append(one(reader))
    reader.take("}")
    return tuple(found)


def _item(reader):
    word = reader.ahead()
    if word not in ITEMS:
        raise TextError(reader.here())
    reader.take(word)
    read = ITEMS[word]
    return read(reader)


def _in(reader):
    name = _name(reader)
    return ("in", name, _width(reader, ";"))


def _out(reader):
    name = _name(reader)
    width = _width(reader, "=")
    return ("out", name, width, _value(reader))


def _let(reader):
    reference = _reference(reader)
    width = _width(reader, "=")
    return ("let", reference, width, _value(reader))


def _reg(reader):
    reference = _reference(reader)
    width = _width(reader, "from")
    start = _amount(reader)
    reader.take("=")
    return ("reg", reference, width, start, _value(reader))


def _mem(reader):
    reference = _reference(reader)
    width = _width(reader, "of")
    depth = _amount(reader)
    reader.take("{")
    return ("mem", reference, width, depth, _up_to_brace(reader, _write))


def _use(reader):
    reference = _reference(reader)
    reader.take("=")
    part = _name(reader)
    numbers = _listed(reader, _amount)
    reader.take("{")
    return ("use", reference, part, numbers, _up_to_brace(reader, _port))


def _machine(reader):
    reference = _reference(reader)
    reader.take("{")
    states = _several(reader, _name)
    reader.take(";")
    return ("machine", reference, states, _up_to_brace(reader, _move))


def _rows(reader):
    name = _name(reader)
    reader.take("from")
    first = _amount(reader)
    reader.take("to")
    last = _amount(reader)
    reader.take("{")
    return ("rows", name, first, last, _up_to_brace(reader, _item))


def _if(reader):
    test = _amount(reader)
    reader.take("{")
    items = _up_to_brace(reader, _item)
    reader.take("else")
    reader.take("{")
    return ("if", test, items, _up_to_brace(reader, _item))


def _width(reader, behind):
    """Returns the amount behind a colon, and goes behind the sign or word that has to follow."""
    reader.take(":")
    width = _amount(reader)
    reader.take(behind)
    return width


def _value(reader):
    value = _expression(reader)
    reader.take(";")
    return value


def _write(reader):
    reader.take("when")
    enable = _expression(reader)
    reader.take("at")
    address = _expression(reader)
    reader.take("put")
    return (enable, address, _value(reader))


def _port(reader):
    name = _name(reader)
    reader.take("=")
    return (name, _value(reader))


def _move(reader):
    first = _name(reader)
    reader.take("to")
    second = _name(reader)
    reader.take("when")
    return (first, second, _value(reader))


def _reference(reader):
    name = _name(reader)
    indexes = ()
    if reader.ahead() == "[":
        reader.take("[")
        indexes = _several(reader, _amount)
        reader.take("]")
    return (name, indexes)


def _amount(reader):
    if reader.form() == "number":
        return _number(reader)
    if reader.form() == "name":
        return _name(reader)
    if reader.ahead() == "bits":
        reader.take("bits")
        reader.take("(")
        found = ("bits", _amount(reader))
    else:
        reader.take("(")
        first = _amount(reader)
        op = OPS.get(reader.ahead())
        if op is None:
            raise TextError(reader.here())
        reader.take(reader.ahead())
        found = (op, first, _amount(reader))
    reader.take(")")
    return found


def _expression(reader):
    if reader.form() == "name":
        return _named(reader)
    word = reader.ahead()
    if word == "(":
        return _signed(reader)
    if word not in CALLS:
        raise TextError(reader.here())
    reader.take(word)
    reader.take("(")
    read = CALLS[word]
    found = read(reader, word)
    reader.take(")")
    return found


def _named(reader):
    reference = _reference(reader)
    if reader.ahead() == ".":
        reader.take(".")
        return ("port", reference, _name(reader))
    if reader.ahead() == "is":
        reader.take("is")
        return ("is", reference, _name(reader))
    return ("ref", reference)


def _signed(reader):
    reader.take("(")
    first = _expression(reader)
    sign = SIGN_OF.get(reader.ahead())
    if sign is None:
        raise TextError(reader.here())
    reader.take(reader.ahead())
    second = _expression(reader)
    reader.take(")")
    return ("op", sign, (first, second))


def _called_word(reader, word):
    number = _amount(reader)
    reader.take(",")
    return (word, number, _amount(reader))


def _called_sign(reader, word):
    return ("op", word, (_expression(reader),))


def _called_cut(reader, word):
    value = _expression(reader)
    reader.take(",")
    low = _amount(reader)
    reader.take(",")
    return (word, value, low, _amount(reader))


def _called_join(reader, word):
    return (word, _several(reader, _expression))


def _called_choose(reader, word):
    test = _expression(reader)
    reader.take(",")
    yes = _expression(reader)
    reader.take(",")
    return (word, test, yes, _expression(reader))


def _called_read(reader, word):
    reference = _reference(reader)
    reader.take(",")
    return (word, reference, _expression(reader))


ITEMS = {
    "in": _in, "out": _out, "let": _let, "reg": _reg, "mem": _mem, "use": _use,
    "machine": _machine, "rows": _rows, "if": _if,
}

CALLS = {
    "word": _called_word, "not": _called_sign, "any": _called_sign, "all": _called_sign, "odd": _called_sign,
    "cut": _called_cut, "join": _called_join, "choose": _called_choose, "read": _called_read,
}
