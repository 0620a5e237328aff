"""Chapter 06 and states.py of the interface."""

import unittest
from itertools import product
from random import Random

from calling import called, is_false, is_true, with_item
from cellcloth import meaning
from cellcloth.states import circuit_of, least, least_right, moore_run

PAIR = ("moore", 2, [(0, [1, 2]), (5, [0, 0]), (5, [0, 0])])


def made_machine(seed, most_states=8, most_letters=3, outputs=2):
    random = Random(seed)
    many = random.randint(1, most_states)
    letters = random.randint(1, most_letters)
    rows = [(random.randrange(outputs), [random.randrange(many) for _ in range(letters)]) for _ in range(many)]
    return ("moore", letters, rows)


def from_state(machine, state, word):
    rows = machine[2]
    told = [rows[state][0]]
    for letter in word:
        state = rows[state][1][letter]
        told.append(rows[state][0])
    return told


def walked(machine):
    """The reachable states in the order of a breadth-first walk."""
    order = [0]
    for state in order:
        for after in machine[2][state][1]:
            if after not in order:
                order.append(after)
    return order


def first_telling_word(machine, first, second):
    """The shortest and then least word that tells two states apart, by trying all words."""
    for length in range(len(machine[2]) + 1):
        for word in product(range(machine[1]), repeat=length):
            if from_state(machine, first, word)[-1] != from_state(machine, second, word)[-1]:
                return list(word)
    return None


class LeastTest(unittest.TestCase):
    def test_example(self):
        self.assertEqual(called(self, least, PAIR), (("moore", 2, [(0, [1, 1]), (5, [0, 0])]), ([0, 1, 1], [[]])))
        self.assertEqual(called(self, moore_run, PAIR, [1, 0]), [0, 5, 0])
        self.assertEqual(moore_run(PAIR, []), [0])

    def test_one_state(self):
        for letters in (1, 16):
            machine = ("moore", letters, [(255, [0] * letters)])
            self.assertEqual(called(self, least, machine), (machine, ([0], [])))
            self.assertEqual(moore_run(machine, [letters - 1] * 3), [255] * 4)

    def test_against_trying_all_words(self):
        for seed in range(250):
            machine = made_machine(seed, 6, 2)
            made, (merging, words) = called(self, least, machine)
            order = walked(machine)
            firsts = []
            for state in order:
                alike = [other for other in firsts if first_telling_word(machine, state, other) is None]
                self.assertLessEqual(len(alike), 1)
                if not alike:
                    firsts.append(state)
                self.assertEqual(merging[state], firsts.index(alike[0] if alike else state))
            self.assertEqual(len(made[2]), len(firsts))
            for number, state in enumerate(firsts):
                self.assertEqual(made[2][number][0], machine[2][state][0])
                self.assertEqual(made[2][number][1], [merging[after] for after in machine[2][state][1]])
            self.assertEqual([merging[state] for state in range(len(merging)) if state not in order],
                             [None] * (len(merging) - len(order)))
            pairs = [(i, j) for i in range(len(firsts)) for j in range(i + 1, len(firsts))]
            self.assertEqual(words, [first_telling_word(machine, firsts[i], firsts[j]) for i, j in pairs])
            self.assertEqual(walked(made), list(range(len(made[2]))))
            self.assertEqual(made[0:2], ("moore", machine[1]))
            is_true(self, least_right, machine, made, (merging, words))

    def test_chain_that_long_words_tell_apart(self):
        """64 states in a row: how far a state is from the last one tells alone, by the letter 1."""
        rows = [(1 if k == 63 else 0, [0, min(k + 1, 63)]) for k in range(64)]
        made, (merging, words) = least(("moore", 2, rows))
        self.assertEqual((made[2], merging), (rows, list(range(64))))
        expected = [[1] * (63 - j) for i in range(64) for j in range(i + 1, 64)]
        self.assertEqual(words, expected)
        is_true(self, least_right, ("moore", 2, rows), made, (merging, words))

    def test_chain_of_alike_ones(self):
        rows = [(7, [min(k + 1, 63)] * 16) for k in range(64)]
        self.assertEqual(least(("moore", 16, rows)), (("moore", 16, [(7, [0] * 16)]), ([0] * 64, [])))

    def test_alike_but_not_reached(self):
        machine = ("moore", 1, [(0, [1]), (1, [1]), (1, [2]), (9, [0])])
        self.assertEqual(least(machine), (("moore", 1, [(0, [1]), (1, [1])]), ([0, 1, None, None], [[]])))

    def test_numbers_in_the_order_of_the_walk(self):
        machine = ("moore", 3, [(0, [3, 1, 2]), (1, [1] * 3), (2, [2] * 3), (3, [3] * 3)])
        made, (merging, _) = least(machine)
        self.assertEqual(merging, [0, 2, 3, 1])
        self.assertEqual([output for output, _ in made[2]], [0, 3, 1, 2])

    def test_least_word_of_the_shortest(self):
        machine = ("moore", 3, [(9, [1, 2, 2]), (0, [1, 3, 4]), (0, [2, 4, 3]), (4, [0] * 3), (5, [0] * 3)])
        self.assertEqual(least(machine)[1][1][4], [1])

    def test_large_machines(self):
        for seed in range(12):
            machine = made_machine(seed, 64, 16, 2)
            made, paper = called(self, least, machine)
            is_true(self, least_right, machine, made, paper)
            word = [Random(seed).randrange(machine[1]) for _ in range(200)]
            self.assertEqual(called(self, moore_run, machine, word), moore_run(made, word))


class RightTest(unittest.TestCase):
    MACHINE = ("moore", 2, [(0, [1, 2]), (1, [3, 0]), (1, [4, 0]), (0, [3, 3]), (0, [4, 3]), (9, [5, 0])])
    OTHER = ("moore", 2, [(0, [1, 1]), (1, [2, 0]), (0, [2, 2])])
    PAPER = ([0, 1, 1, 2, 2, None], [[], [0], []])

    def test_the_true_paper(self):
        self.assertEqual(least(self.MACHINE), (self.OTHER, self.PAPER))
        is_true(self, least_right, self.MACHINE, self.OTHER, self.PAPER)

    def test_other_numbers_of_new_states(self):
        other = ("moore", 2, [(0, [2, 2]), (0, [1, 1]), (1, [1, 0])])
        is_true(self, least_right, self.MACHINE, other, ([0, 2, 2, 1, 1, None], [[0], [], []]))

    def test_states_that_are_not_reached(self):
        machine = ("moore", 1, [(0, [0]), (0, [0]), (3, [1])])
        other = ("moore", 1, [(0, [0])])
        is_true(self, least_right, machine, other, ([0, None, None], []))
        is_true(self, least_right, machine, other, ([0, 0, None], []))
        is_false(self, least_right, machine, other, ([0, 0, 0], []))
        # One that has a number needs followers that have one.
        wider = ("moore", 1, [(0, [0]), (3, [0])])
        is_true(self, least_right, machine, wider, ([0, 0, 1], [[]]))
        is_false(self, least_right, machine, wider, ([0, None, 1], [[]]))

    def test_longer_words(self):
        merging = self.PAPER[0]
        for words in ([[1, 1], [0, 1, 0], [1, 0]], [[0], [1], [1, 1]]):
            is_true(self, least_right, self.MACHINE, self.OTHER, (merging, words))
        # The outputs behind the whole word have to differ, not some on the way.
        for words in ([[0, 0], [0], []], [[], [0, 1], []], [[], [0], [1]]):
            is_false(self, least_right, self.MACHINE, self.OTHER, (merging, words))

    def wrong(self, merging=None, words=None, other=None):
        paper = (self.PAPER[0] if merging is None else merging, self.PAPER[1] if words is None else words)
        is_false(self, least_right, self.MACHINE, self.OTHER if other is None else other, paper)

    def test_wrong_mergings(self):
        merging = self.PAPER[0]
        for length in range(6):
            self.wrong(merging[:length])
        self.wrong(merging + [None])
        self.wrong(merging + [0])
        for at in range(5):
            for number in (None, 0, 1, 2, 3, -1, -3, 100):
                if number != merging[at]:
                    self.wrong(with_item(merging, at, number))
        self.wrong(with_item(merging, 5, 0))

    def test_wrong_words(self):
        words = self.PAPER[1]
        for length in range(3):
            self.wrong(words=words[:length])
        self.wrong(words=words + [[]])
        self.wrong(words=with_item(words, 1, []))
        self.wrong(words=with_item(words, 0, [0, 0]))
        for letter in (2, -1, 16):
            self.wrong(words=with_item(words, 1, [letter]))
            self.wrong(words=with_item(words, 0, [letter]))

    def test_other_machines(self):
        self.wrong(other=("moore", 1, [(0, [1]), (1, [2]), (0, [2])]))
        self.wrong(other=("moore", 3, [(0, [1, 1, 0]), (1, [2, 0, 0]), (0, [2, 2, 0])]))
        self.wrong(other=("moore", 2, [(0, [1, 1]), (2, [2, 0]), (0, [2, 2])]))
        self.wrong(other=("moore", 2, [(0, [1, 2]), (1, [2, 0]), (0, [2, 2])]))
        self.wrong(other=("moore", 2, [(0, [1, 1]), (1, [0, 0]), (0, [2, 2])]))

    def test_letters_alone_differ(self):
        machine = ("moore", 1, [(4, [0])])
        is_false(self, least_right, machine, ("moore", 2, [(4, [0, 0])]), ([0], []))
        is_false(self, least_right, ("moore", 2, [(4, [0, 0])]), machine, ([0], []))

    def test_new_state_that_nobody_merges_into(self):
        other = ("moore", 2, self.OTHER[2] + [(8, [3, 3])])
        self.wrong(words=[[], [0], [], [], [], []], other=other)

    def test_start(self):
        machine = ("moore", 1, [(0, [1]), (1, [0])])
        other = ("moore", 1, [(1, [1]), (0, [0])])
        is_false(self, least_right, machine, other, ([1, 0], [[]]))
        is_false(self, least_right, machine, ("moore", 1, [(0, [1]), (1, [0])]), ([None, None], [[]]))

    def test_machine_that_is_not_least(self):
        other = ("moore", 2, [(0, [1, 2]), (1, [3, 0]), (1, [4, 0]), (0, [3, 3]), (0, [4, 3])])
        for word in ([], [0], [1], [0, 1, 1]):
            is_false(self, least_right, self.MACHINE, other, ([0, 1, 2, 3, 4, None], [word] * 10))


class CircuitTest(unittest.TestCase):
    def check(self, seed, machine, codes):
        circuit = called(self, circuit_of, machine, codes)
        width = max(1, max(codes).bit_length())
        letter_width = max(1, (machine[1] - 1).bit_length())
        self.assertEqual(circuit[0], "flat")
        self.assertEqual(circuit[1], [("letter", letter_width)])
        self.assertEqual([register[:3] for register in circuit[2]], [("state", width, codes[0])])
        self.assertEqual(circuit[3:5], ([], []))
        self.assertEqual([output[:2] for output in circuit[5]], [("out", 8)])
        random = Random(seed)
        word = [random.randrange(machine[1]) for _ in range(30)]
        told = meaning.run(circuit, [[letter] for letter in word] + [[0]])
        self.assertEqual(told, [[output] for output in moore_run(machine, word)])
        for code in range(2 ** width):
            for letter in range(2 ** letter_width):
                row, after = meaning.step(circuit, ("state", [code], []), [letter])
                goes_on = code in codes and letter < machine[1]
                next_state = machine[2][codes.index(code)][1][letter] if goes_on else 0
                self.assertEqual(after, ("state", [codes[next_state]], []))
                if code in codes:
                    self.assertEqual(row, [machine[2][codes.index(code)][0]])

    def test_codes_of_all_widths(self):
        for seed in range(40):
            machine = made_machine(seed, 5, 5, 256)
            random = Random(seed)
            for width in range(1, 9):
                if 2 ** width >= len(machine[2]):
                    self.check(seed, machine, random.sample(range(2 ** width), len(machine[2])))

    def test_edges(self):
        self.check(0, ("moore", 1, [(3, [0])]), [0])
        self.check(0, ("moore", 1, [(3, [0])]), [200])
        self.check(0, ("moore", 2, [(3, [1, 0]), (255, [0, 1])]), [1, 0])
        made = made_machine(4, 64, 16, 256)
        self.check(1, made, list(range(len(made[2]))))
        machine = ("moore", 16, [(k, [(k * 5 + letter) % 64 for letter in range(16)]) for k in range(64)])
        self.check(2, machine, list(range(63, -1, -1)))
        self.check(3, machine, Random(8).sample(range(256), 64))


if __name__ == "__main__":
    unittest.main()
