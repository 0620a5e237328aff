"""State machines by themselves (chapter 06)."""

OUTPUT_WIDTH = 8


def moore_run(machine, letters):
    """Returns the list of the outputs: the one of the start, and one behind each letter."""
    rows = machine[2]
    state = 0
    told = [rows[0][0]]
    for letter in letters:
        state = rows[state][1][letter]
        told.append(rows[state][0])
    return told


def least(machine):
    """Returns the least machine that tells the same, and its paper: the merging and the words."""
    _, letters, rows = machine
    reached = _reached(rows)
    groups = _groups(rows, reached)
    firsts = []
    numbers = {}
    for state in reached:
        if groups[state] not in numbers:
            numbers[groups[state]] = len(firsts)
            firsts.append(state)
    merging = [numbers[groups[state]] if state in groups else None for state in range(len(rows))]
    made = [(rows[state][0], [merging[after] for after in rows[state][1]]) for state in firsts]
    return ("moore", letters, made), (merging, _telling_words(letters, made))


def least_right(machine, other, paper):
    """Returns whether a paper is right for a machine and another one (point 06.4)."""
    merging, words = paper
    if machine[1] != other[1]:
        return False
    return _merging_right(machine[2], other[2], merging) and _words_right(other, words)


def circuit_of(machine, codes):
    """Returns the flat circuit of a machine whose states have these codes (point 06.5)."""
    _, letters, rows = machine
    letter_width = _width_of(letters - 1)
    width = _width_of(max(codes))
    state_bits = _bits_of_name("state", width)
    # The low bits of a place in this table are those of the letter, the others are those of the code.
    table = [codes[0]] * (1 << (letter_width + width))
    outputs = [0] * (1 << width)
    for (output, afters), code in zip(rows, codes):
        outputs[code] = output
        for letter, after in enumerate(afters):
            table[(code << letter_width) + letter] = codes[after]
    following = _looked_up(_bits_of_name("letter", letter_width) + state_bits, table, width)
    told = _looked_up(state_bits, outputs, OUTPUT_WIDTH)
    registers = [("state", width, codes[0], following)]
    return ("flat", [("letter", letter_width)], registers, [], [], [("out", OUTPUT_WIDTH, told)])


def _reached(rows):
    """Returns the states that can be reached, in the order of a breadth-first walk."""
    order = [0]
    seen = {0: True}
    at = 0
    while at < len(order):
        afters = rows[order[at]][1]
        for after in afters:
            if after not in seen:
                seen[after] = True
                order.append(after)
        at += 1
    return order


def _groups(rows, states):
    """Returns a dict from the states to numbers that are equal for just those that are alike."""
    groups = {state: rows[state][0] for state in states}
    many = 0
    while True:
        numbers = {}
        finer = {}
        for state in states:
            key = (groups[state], tuple([groups[after] for after in rows[state][1]]))
            finer[state] = numbers.setdefault(key, len(numbers))
        if len(numbers) == many:
            return groups
        groups = finer
        many = len(numbers)


def _telling_words(letters, rows):
    """Returns the least shortest words that tell the states of a least machine apart, by pairs of states."""
    pairs = [(first, second) for second in range(len(rows)) for first in range(second)]
    words = {(first, second): [] for first, second in pairs if rows[first][0] != rows[second][0]}
    while len(words) < len(pairs):
        # What is found in one round has words of one length, so a round looks at the rounds before it alone.
        found = {}
        for pair in pairs:
            if pair not in words:
                word = _word_by_first_letter(letters, rows, pair, words)
                if word is not None:
                    found[pair] = word
        for pair, word in found.items():
            words[pair] = word
    return [words[pair] for pair in sorted(pairs)]


def _word_by_first_letter(letters, rows, pair, words):
    for letter in range(letters):
        first = rows[pair[0]][1][letter]
        second = rows[pair[1]][1][letter]
        after = (min(first, second), max(first, second))
        if after in words:
            return [letter] + words[after]
    return None


def _merging_right(rows, made, merging):
    if len(merging) != len(rows) or merging[0] != 0:
        return False
    if any([number is not None and number not in range(len(made)) for number in merging]):
        return False
    if any([number not in merging for number in range(len(made))]):
        return False
    for (output, afters), number in zip(rows, merging):
        if number is not None:
            if (output, [merging[after] for after in afters]) != (made[number][0], list(made[number][1])):
                return False
    return True


def _words_right(machine, words):
    _, letters, rows = machine
    pairs = [(first, second) for first in range(len(rows)) for second in range(first + 1, len(rows))]
    if len(words) != len(pairs):
        return False
    for (first, second), word in zip(pairs, words):
        if any([letter not in range(letters) for letter in word]):
            return False
        if _output_behind(rows, first, word) == _output_behind(rows, second, word):
            return False
    return True


def _output_behind(rows, state, word):
    for letter in word:
        state = rows[state][1][letter]
    return rows[state][0]


def _width_of(number):
    return max(1, number.bit_length())


def _bits_of_name(name, width):
    """Returns the expressions of the bits of an input or register, the low one first."""
    return [("cut", 1, ("name", width, name), low) for low in range(width)]


def _looked_up(bits, table, width):
    """Returns the expression of the item of a table whose index has these bits; it is as deep as there are bits."""
    if table == [table[0]] * len(table):
        return ("const", width, table[0])
    half = len(table) // 2
    rest = bits[:-1]
    return ("choose", width, bits[-1], _looked_up(rest, table[half:], width), _looked_up(rest, table[:half], width))
