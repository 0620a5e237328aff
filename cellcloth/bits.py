"""Bits: a config as bits, and back (section Bits)."""

from cellcloth.errors import BitsError
from cellcloth.fabric import MOST_ENDS, MOST_PINS, MOST_PLACES, MOST_TRACKS, greatest_drive, greatest_tap, is_border

HEAD = (4, 4, 3, 2, 7, 7)
HEAD_BITS = 27
END = (4, 4, 2, 3)
END_BITS = 13
SUM_BITS = 16
DRIVE_BITS = 3


def bits_of(config):
    """Returns the list of the bits of a config (point 15.1)."""
    _, fabric, settings, ins, outs = config
    head = [number - 1 for number in fabric[1:]] + [len(ins), len(outs)]
    bits = _written(head, HEAD)
    tap_bits = _tap_bits(fabric)
    for _, table, kept, start, taps, drives in settings:
        bits.extend(_written([table, kept, start], (1 << fabric[4], 1, 1)))
        bits.extend(_written(taps, [tap_bits] * len(taps)))
        bits.extend(_written(drives, [DRIVE_BITS] * len(drives)))
    for told in ins + outs:
        bits.extend(_written(told, END))
    return bits + _sum_bits(bits)


def config_of(bits):
    """Returns the config whose bits these are; raises BitsError."""
    fabric, many_ins, many_outs = _head_of(bits)
    size = size_of(fabric, many_ins, many_outs)
    if len(bits) != size:
        raise BitsError(min(len(bits), size))
    if bits[size - SUM_BITS:] != _sum_bits(bits[:size - SUM_BITS]):
        raise BitsError(size - SUM_BITS)
    settings = []
    at = HEAD_BITS
    for _ in range(fabric[1] * fabric[2]):
        settings.append(_setting_at(bits, at, fabric))
        at += _setting_bits(fabric)
    ins = _ends_at(bits, at, many_ins, fabric)
    outs = _ends_at(bits, at + many_ins * END_BITS, many_outs, fabric)
    return ("config", fabric, settings, ins, outs)


def sum_of(bits):
    """Returns the sum of a list of bits (point 15.2)."""
    told = 65535
    for bit in bits:
        told *= 2
        above = told >> 16
        told &= 65535
        if above != bit:
            told ^= 4129
    return told


def size_of(fabric, ins, outs):
    """Returns how many bits the config of a fabric with so many inputs and outputs has."""
    places = fabric[1] * fabric[2]
    return HEAD_BITS + places * _setting_bits(fabric) + (ins + outs) * END_BITS + SUM_BITS


def _tap_bits(fabric):
    return greatest_tap(fabric).bit_length()


def _setting_bits(fabric):
    _, _, _, tracks, pins = fabric
    return (1 << pins) + 2 + pins * _tap_bits(fabric) + 4 * tracks * DRIVE_BITS


def _written(numbers, widths):
    """Returns the bits of numbers, one behind the other, each with its low bit first."""
    return [(number >> at) & 1 for number, width in zip(numbers, widths) for at in range(width)]


def _sum_bits(bits):
    told = sum_of(bits)
    return [(told >> at) & 1 for at in reversed(range(SUM_BITS))]


def _read(bits, at, widths):
    """Returns the numbers that stand in bits from a place on, one behind the other."""
    numbers = []
    for width in widths:
        numbers.append(sum([bit << k for k, bit in enumerate(bits[at:at + width])]))
        at += width
    return numbers


def _head_of(bits):
    """Returns the fabric and the numbers of the inputs and outputs."""
    if len(bits) < HEAD_BITS:
        raise BitsError(len(bits))
    numbers = _read(bits, 0, HEAD)
    wide, high, tracks, pins, ins, outs = numbers
    most = (MOST_PLACES - 1, MOST_PLACES - 1, MOST_TRACKS - 1, MOST_PINS - 1, MOST_ENDS, MOST_ENDS)
    at = 0
    for number, greatest, width in zip(numbers, most, HEAD):
        if number > greatest:
            raise BitsError(at)
        at += width
    return ("fabric", wide + 1, high + 1, tracks + 1, pins + 1), ins, outs


def _setting_at(bits, at, fabric):
    _, _, _, tracks, pins = fabric
    table, kept, start = _read(bits, at, (1 << pins, 1, 1))
    taps_at = at + (1 << pins) + 2
    tap_bits = _tap_bits(fabric)
    taps = _codes_at(bits, taps_at, pins, tap_bits, greatest_tap(fabric))
    drives = _codes_at(bits, taps_at + pins * tap_bits, 4 * tracks, DRIVE_BITS, greatest_drive())
    return ("setting", table, kept, start, taps, drives)


def _codes_at(bits, at, many, width, greatest):
    codes = _read(bits, at, [width] * many)
    for k, code in enumerate(codes):
        if code > greatest:
            raise BitsError(at + k * width)
    return codes


def _ends_at(bits, at, many, fabric):
    found = []
    for k in range(many):
        told = tuple(_read(bits, at + k * END_BITS, END))
        if not is_border(fabric, told) or told in found:
            raise BitsError(at + k * END_BITS)
        found.append(told)
    return found
