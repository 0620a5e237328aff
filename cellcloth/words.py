"""Words: the signs, and what they give (chapter 01)."""

SIGNS = (
    "not", "and", "or", "xor", "add", "sub", "mul",
    "same", "less", "shl", "shr", "any", "all", "odd",
)

SIGNS_OF_ONE = ("not", "any", "all", "odd")

SIGNS_TO_A_BIT = ("same", "less", "any", "all", "odd")

MOVES = ("shl", "shr")


def arguments_of(sign):
    """Returns how many words a sign takes: 1 or 2."""
    return 1 if sign in SIGNS_OF_ONE else 2


def result_width(sign, width):
    """Returns the width of what a sign gives for words of a width."""
    return 1 if sign in SIGNS_TO_A_BIT else width


def calculate(sign, width, words):
    """Returns the word that a sign gives for a list or tuple of words of a width."""
    first = remainder(words[0], width)
    if sign in SIGNS_OF_ONE:
        return _of_one(sign, width, first)
    if sign in MOVES:
        # The second word of a move may be wider than the first one, so it stays whole.
        return _moved(sign, width, first, words[1])
    return _of_two(sign, width, first, remainder(words[1], width))


def remainder(number, width):
    """Returns the word of a width that a number is, taken modulo 2 to the power of it."""
    return number & ((1 << width) - 1)


def cut_word(word, low, width):
    """Returns as many bits of a word as the width tells, from the bit `low` on."""
    return remainder(word >> low, width)


def joined(pairs):
    """Returns the word of words side by side, given as pairs of a width and a word, the low one first."""
    told = 0
    low = 0
    for width, word in pairs:
        told += word << low
        low += width
    return told


def _of_one(sign, width, word):
    greatest = (1 << width) - 1
    if sign == "not":
        return greatest - word
    if sign == "any":
        return 1 if word != 0 else 0
    if sign == "all":
        return 1 if word == greatest else 0
    return sum([(word >> at) & 1 for at in range(width)]) & 1


def _moved(sign, width, word, by):
    if by >= width:
        return 0
    return remainder(word << by, width) if sign == "shl" else word >> by


def _of_two(sign, width, first, second):
    if sign == "and":
        return first & second
    if sign == "or":
        return first | second
    if sign == "xor":
        return first ^ second
    if sign == "same":
        return 1 if first == second else 0
    if sign == "less":
        return 1 if first < second else 0
    if sign == "add":
        return remainder(first + second, width)
    if sign == "sub":
        return remainder(first - second, width)
    return remainder(first * second, width)
