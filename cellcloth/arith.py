"""The signs and memories on words of literals, the low bit first, with the gates of a Builder."""


def constant(number, width):
    """Returns the word of a number: the literals 0 and 1."""
    return [(number >> at) & 1 for at in range(width)]


def calculated(made, sign, words):
    """Returns the word that a sign gives for one or two words."""
    first = words[0]
    if sign == "not":
        return _turned(first)
    if sign == "any":
        return [_any_of(made, first)]
    if sign == "all":
        return [_all_of(made, first)]
    if sign == "odd":
        return [_odd_of(made, first)]
    second = words[1]
    if sign in ("shl", "shr"):
        return _moved(made, sign, first, second)
    if sign == "add":
        return _sum(made, first, second, 0)
    if sign == "sub":
        return _sum(made, first, _turned(second), 1)
    if sign == "mul":
        return _product(made, first, second)
    if sign == "same":
        return [_same(made, first, second)]
    if sign == "less":
        return [_less(made, first, second)]
    return [_bit_by_bit(made, sign, a, b) for a, b in zip(first, second)]


def alternatives(made, test, yes, no):
    """Returns the one word if the test is 1, otherwise the other one."""
    return [_alternative(made, test, a, b) for a, b in zip(yes, no)]


def read_word(made, words, address, width):
    """Returns the word of a list of words at an address; 0 beyond the last one."""
    nothing = [0] * width
    for bit in address:
        # Behind this bit, each word that is left stands for those two that differ in it.
        highs = [words[at + 1] if at + 1 < len(words) else nothing for at in range(0, len(words), 2)]
        words = [alternatives(made, bit, high, low) for low, high in zip(words[::2], highs)]
    return words[0]


def written_words(made, words, writes):
    """Returns the words of a memory behind a cycle, for triples of an enable, an address and a word."""
    after = list(words)
    for enable, address, word in writes:
        for at, before in enumerate(list(after)):
            if at < 1 << len(address):
                here = made.both(enable[0], _same(made, address, constant(at, len(address))))
                after[at] = alternatives(made, here, word, before)
    return after


def _either(made, a, b):
    return made.both(a ^ 1, b ^ 1) ^ 1


def _differ(made, a, b):
    return made.both(made.both(a, b) ^ 1, made.both(a ^ 1, b ^ 1) ^ 1)


def _alternative(made, test, yes, no):
    if yes == no:
        return yes
    return _either(made, made.both(test, yes), made.both(test ^ 1, no))


def _turned(word):
    return [literal ^ 1 for literal in word]


def _bit_by_bit(made, sign, a, b):
    if sign == "and":
        return made.both(a, b)
    return _either(made, a, b) if sign == "or" else _differ(made, a, b)


def _all_of(made, word):
    """Returns the literal that is 1 if all are, by as few levels as there can be."""
    while len(word) > 1:
        rest = word[len(word) - len(word) % 2:]
        word = [made.both(a, b) for a, b in zip(word[::2], word[1::2])] + rest
    return word[0]


def _any_of(made, word):
    return _all_of(made, _turned(word)) ^ 1


def _odd_of(made, word):
    told = word[0]
    for literal in word[1:]:
        told = _differ(made, told, literal)
    return told


def _same(made, first, second):
    return _all_of(made, [_differ(made, a, b) ^ 1 for a, b in zip(first, second)])


def _less(made, first, second):
    told = 0
    for a, b in zip(first, second):
        # The highest bit in which both differ decides, so it comes last.
        stays = made.both(made.both(a, b ^ 1) ^ 1, told)
        told = _either(made, made.both(a ^ 1, b), stays)
    return told


def _sum(made, first, second, carry):
    told = []
    for a, b in zip(first, second):
        differ = _differ(made, a, b)
        told.append(_differ(made, differ, carry))
        carry = _either(made, made.both(a, b), made.both(differ, carry))
    return told


def _product(made, first, second):
    # Words that are multiplied the other way round give the same gates again.
    low, high = sorted([first, second])
    width = len(low)
    told = [0] * width
    for at, bit in enumerate(high):
        part = [made.both(bit, literal) for literal in low[:width - at]]
        told = told[:at] + _sum(made, told[at:], part, 0)
    return told


def _moved(made, sign, word, by):
    width = len(word)
    for k, bit in enumerate(by):
        many = min(1 << k, width)
        nothing = [0] * many
        moved = nothing + word[:width - many] if sign == "shl" else word[many:] + nothing
        word = alternatives(made, bit, moved, word)
    return word
