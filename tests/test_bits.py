"""Section Bits (points 15.1 to 15.4) and bits.py of the interface."""

import unittest
from random import Random

from calling import called, with_item
from cellcloth.bits import bits_of, config_of, size_of, sum_of
from cellcloth.errors import BitsError
from cellcloth.fabric import beside, borders, check, empty
from configmaking import made_config

SMALL = ("config", ("fabric", 1, 1, 1, 1), [("setting", 1, 1, 0, [1], [0, 1, 0, 4])], [(0, 0, 2, 0)],
         [(0, 0, 1, 0), (0, 0, 3, 0)])


def low_first(number, width):
    return [number >> at & 1 for at in range(width)]


def plain_sum(bits):
    """Point 15.2, as the long division of all bits, with ones before them and room behind."""
    number = 0
    for bit in bits:
        number = number * 2 + bit
    many = len(bits)
    number = (number << 16) ^ (65535 << many)
    for at in range(many + 15, 15, -1):
        if number >> at & 1:
            number ^= (65536 + 4129) << (at - 16)
    return number


def plain_bits(config):
    """Point 15.1, number by number."""
    _, (_, wide, high, tracks, pins), settings, ins, outs = config
    bits = []
    for number, width in ((wide - 1, 4), (high - 1, 4), (tracks - 1, 3), (pins - 1, 2), (len(ins), 7), (len(outs), 7)):
        bits += low_first(number, width)
    for _, table, kept, start, taps, drives in settings:
        bits += low_first(table, 2 ** pins) + [kept, start]
        for code in taps:
            bits += low_first(code, len(bin(4 * tracks + 1)) - 2)
        for code in drives:
            bits += low_first(code, 3)
    for x, y, side, track in ins + outs:
        bits += low_first(x, 4) + low_first(y, 4) + low_first(side, 2) + low_first(track, 3)
    return bits + low_first(plain_sum(bits), 16)[::-1]


def error_of(bits):
    try:
        config_of(bits)
    except BitsError as error:
        return error.at
    return None


def resummed(bits):
    """Bits with the sum that is due."""
    told = sum_of(bits[:-16])
    return bits[:-16] + low_first(told, 16)[::-1]


def with_number(bits, at, width, number):
    return resummed(bits[:at] + low_first(number, width) + bits[at + width:])


class WrittenTest(unittest.TestCase):
    def test_example(self):
        self.assertEqual(called(self, size_of, ("fabric", 1, 1, 1, 1), 1, 1), 88)
        self.assertEqual([called(self, sum_of, [1]), sum_of([0])], [65534, 61407])

    def test_small_one_to_the_letter(self):
        bits = called(self, bits_of, SMALL)
        head = [0] * 8 + [0] * 3 + [0] * 2 + [1, 0, 0, 0, 0, 0, 0] + [0, 1, 0, 0, 0, 0, 0]
        place = [1, 0] + [1] + [0] + [1, 0, 0] + [0, 0, 0, 1, 0, 0, 0, 0, 0, 0, 0, 1]
        ends = [0] * 8 + [0, 1] + [0] * 3 + [0] * 8 + [1, 0] + [0] * 3 + [0] * 8 + [1, 1] + [0] * 3
        self.assertEqual(bits[:-16], head + place + ends)
        self.assertEqual(int("".join(map(str, bits[-16:])), 2), sum_of(bits[:-16]))
        self.assertEqual(len(bits), size_of(SMALL[1], 1, 2))

    def test_all_sizes(self):
        for seed in range(60):
            config = made_config(seed, 5, 5, 8)
            bits = called(self, bits_of, config)
            self.assertEqual(bits, plain_bits(config))
            self.assertEqual(len(bits), called(self, size_of, config[1], len(config[3]), len(config[4])))
            self.assertEqual(called(self, config_of, bits), config)

    def test_the_greatest(self):
        fabric = ("fabric", 12, 12, 8, 4)
        ends = [(x, y, side, track) for x, y, side in borders(fabric) for track in range(8)]
        random = Random(3)
        settings = [("setting", random.randrange(65536), 1, 1, [random.randrange(34) for _ in range(4)],
                     [random.randrange(6) for _ in range(32)]) for _ in range(144)]
        config = ("config", fabric, settings, random.sample(ends, 64), random.sample(ends, 64))
        check(config)
        bits = bits_of(config)
        self.assertEqual(len(bits), 27 + 144 * (16 + 2 + 4 * 6 + 32 * 3) + 128 * 13 + 16)
        self.assertEqual(bits, plain_bits(config))
        self.assertEqual(config_of(bits), config)

    def test_sizes(self):
        self.assertEqual(size_of(("fabric", 1, 1, 1, 1), 0, 0), 62)
        self.assertEqual(size_of(("fabric", 2, 3, 2, 3), 5, 7), 27 + 6 * (8 + 2 + 3 * 4 + 8 * 3) + 12 * 13 + 16)


class SumTest(unittest.TestCase):
    def test_lists(self):
        self.assertEqual(called(self, sum_of, []), 65535)
        for seed in range(40):
            random = Random(seed)
            bits = [random.randint(0, 1) for _ in range(random.randint(0, 300))]
            self.assertEqual(called(self, sum_of, bits), plain_sum(bits))

    def test_long_lists(self):
        for many in (5000, 32751):
            for bits in ([0] * many, [1] * many, [at & 1 for at in range(many)]):
                self.assertEqual(sum_of(bits), plain_sum(bits))

    def test_step_by_step(self):
        told = 65535
        bits = []
        for bit in (0, 1, 1, 0, 0, 0, 1, 0, 1, 1, 1, 1, 0, 1, 0, 0, 0, 0, 1, 0):
            bits.append(bit)
            told *= 2
            above = told >= 65536
            told -= 65536 if above else 0
            if above != (bit == 1):
                told ^= 4129
            self.assertEqual(sum_of(bits), told)

    def test_changed_bits(self):
        """Point 15.3: a sum does not stay with one, two, an odd number of, or near bits changed."""
        config = made_config(11, 3, 3, 2)
        bits = bits_of(config)
        body = bits[:-16]
        random = Random(5)

        def fits(changed):
            return sum_of(changed[:-16]) == int("".join(map(str, changed[-16:])), 2)

        def turned(places):
            return [bit ^ (at in places) for at, bit in enumerate(bits)]

        self.assertTrue(fits(bits))
        for at in range(len(bits)):
            self.assertFalse(fits(turned({at})))
        for _ in range(1500):
            self.assertFalse(fits(turned(set(random.sample(range(len(bits)), 2)))))
            self.assertFalse(fits(turned(set(random.sample(range(len(bits)), random.randrange(1, 40, 2))))))
            first = random.randrange(len(bits) - 15)
            near = [at for at in range(first, first + 16) if random.randint(0, 1)] or [first]
            self.assertFalse(fits(turned(set(near))))
        long = [random.randint(0, 1) for _ in range(32751)]
        told = sum_of(long)
        for _ in range(25):
            pair = random.sample(range(32751), 2)
            self.assertNotEqual(sum_of([bit ^ (at in pair) for at, bit in enumerate(long)]), told)
        self.assertEqual(sum_of(body), sum_of(list(body)))


class ReadTest(unittest.TestCase):
    def test_reading_back(self):
        self.assertEqual(called(self, config_of, bits_of(SMALL)), SMALL)
        config = config_of(bits_of(made_config(2)))
        self.assertIsNone(check(config))
        self.assertIs(type(config[3]), list)

    def test_too_short_for_a_head(self):
        bits = bits_of(SMALL)
        for many in range(27):
            self.assertEqual(error_of(bits[:many]), many)
            self.assertEqual(error_of([1] * many), many)
        # A head alone is there, so its numbers decide first.
        self.assertEqual(error_of(bits[:27]), 27)
        self.assertEqual([error_of([1] * 27), error_of([0] * 4 + [1] * 23), error_of([0] * 13 + [1] * 14)], [0, 4, 13])

    def test_heads(self):
        bits = bits_of(SMALL)
        for at, width, most in ((0, 4, 11), (4, 4, 11), (13, 7, 64), (20, 7, 64)):
            for number in range(most + 1, 2 ** width):
                self.assertEqual(error_of(with_number(bits, at, width, number)), at)
                self.assertEqual(error_of(bits[:at] + low_first(number, width) + bits[at + width:]), at)
            for number in range(most + 1):
                self.assertNotEqual(error_of(with_number(bits, at, width, number)), at)
        # Every number of tracks and pins is allowed, so the length decides.
        for at, width in ((8, 3), (11, 2)):
            for number in range(1, 2 ** width):
                self.assertEqual(error_of(with_number(bits, at, width, number)), len(bits))
        for first, second in ((0, 4), (4, 13), (13, 20)):
            changed = bits[:first] + [1] * 4 + bits[first + 4:]
            changed = changed[:13] + [1] * 14 + changed[27:]
            self.assertEqual(error_of(changed), first if first < 13 else 13)

    def test_lengths(self):
        bits = bits_of(SMALL)
        for many in range(27, len(bits)):
            self.assertEqual(error_of(bits[:many]), many)
        for more in (1, 2, 100):
            self.assertEqual(error_of(bits + [0] * more), len(bits))
        # A head that demands more.
        wider = bits[:0] + low_first(1, 4) + bits[4:]
        self.assertEqual(error_of(wider), len(bits))
        self.assertEqual(error_of(wider + [0] * 500), size_of(("fabric", 2, 1, 1, 1), 1, 2))

    def test_sums(self):
        for seed in (0, 3, 8):
            bits = bits_of(made_config(seed))
            for at in range(27, len(bits)):
                self.assertEqual(error_of(with_item(bits, at, 1 - bits[at])), len(bits) - 16)

    def test_codes(self):
        for tracks in range(1, 9):
            fabric = ("fabric", 2, 1, tracks, 2)
            bits = bits_of(("config", fabric, [empty(fabric)] * 2, [], []))
            tap_bits = (4 * tracks + 1).bit_length()
            for place in range(2):
                first = 27 + place * (4 + 2 + 2 * tap_bits + 12 * tracks)
                for pin in range(2):
                    at = first + 6 + pin * tap_bits
                    for code in range(2 ** tap_bits):
                        expected = at if code > 4 * tracks + 1 else None
                        self.assertEqual(error_of(with_number(bits, at, tap_bits, code)), expected)
                for wire in range(4 * tracks):
                    at = first + 6 + 2 * tap_bits + 3 * wire
                    for code in range(8):
                        self.assertEqual(error_of(with_number(bits, at, 3, code)), at if code > 5 else None)

    def test_ends(self):
        fabric = ("fabric", 3, 2, 2, 1)
        ends = [(0, 0, 0, 0), (2, 1, 1, 1), (1, 0, 0, 0)]
        bits = bits_of(("config", fabric, [empty(fabric)] * 6, ends, ends))
        first = len(bits) - 16 - 6 * 13
        for k in range(6):
            at = first + 13 * k
            others = [(x, y, side, track) for x in range(16) for y in (0, 1, 2, 15) for side in range(4)
                      for track in (0, 1, 2, 7)]
            for end in others:
                x, y, side, track = end
                told = low_first(x, 4) + low_first(y, 4) + low_first(side, 2) + low_first(track, 3)
                changed = resummed(bits[:at] + told + bits[at + 13:])
                is_border = x < 3 and y < 2 and track < 2 and beside(fabric, x, y, side) is None
                row = ends[:k % 3] + [end] + ends[k % 3 + 1:]
                expected = None
                if not is_border:
                    expected = at
                elif len(set(row)) < 3:
                    later = max(m for m in range(3) if row[m] in row[:m])
                    expected = first + 13 * (later + k // 3 * 3)
                self.assertEqual(error_of(changed), expected)

    def test_the_first_of_several(self):
        fabric = ("fabric", 2, 1, 1, 1)
        config = ("config", fabric, [empty(fabric)] * 2, [(0, 0, 0, 0)], [(1, 0, 0, 0)])
        bits = bits_of(config)
        # From the last one to the first one: an output, an input, a drive, a tap of the place 1, those of the place 0.
        at = len(bits) - 16
        size = 2 + 2 + 3 + 12
        for place, width in ((at - 13, 4), (at - 26, 4), (27 + size + 7, 3), (27 + size + 4, 3), (27 + 16, 3),
                             (27 + 7, 3), (27 + 4, 3)):
            bits = with_number(bits, place, width, 2 ** width - 1)
            self.assertEqual(error_of(bits), place)
        bits = with_item(bits, at + 3, 1 - bits[at + 3])
        self.assertEqual(error_of(bits), at)
        bits = bits + [0]
        self.assertEqual(error_of(bits), len(bits) - 1)
        self.assertEqual(error_of([1] * 4 + bits[4:]), 0)


if __name__ == "__main__":
    unittest.main()
