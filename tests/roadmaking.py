"""Descriptions of small circuits, and dossiers of which some steps are changed and those behind them are made again."""

from cellcloth.bits import bits_of
from cellcloth.cells import packed
from cellcloth.cover import covered
from cellcloth.gates import blast
from cellcloth.parsing import parse
from cellcloth.place import placed
from cellcloth.retime import retimed
from cellcloth.route import routed
from cellcloth.sweep import swept, tidied

TEXTS = {
    "counter": "in e: 1; reg n: 2 from 0 = choose(e, (n + word(1, 2)), n); out s: 2 = n;",
    "sum": "in a: 3; in b: 3; reg r: 3 from 5 = ((r + a) ^ b); out s: 3 = r; out t: 1 = any(r);",
    "moved": "in a: 2; in b: 2; reg p: 2 from 1 = (a * b); reg q: 2 from 2 = p; reg r: 2 from 0 = (q + p);"
             "out s: 2 = not(r);",
    "machine": "in a: 2; machine m { s0, s1, s2; s0 to s1 when any(a); s1 to s2 when all(a); s2 to s0 when not(any(a)); }"
               "out s: 1 = m is s2; out t: 1 = m is s0;",
    "memory": "in w: 1; in a: 1; in d: 2; mem m: 2 of 2 { when w at a put d; } out q: 2 = read(m, a);",
    "plain": "in a: 2; in b: 1; out s: 2 = a; out t: 1 = not(b); out u: 1 = word(1, 1); out v: 1 = word(0, 1);",
    "less": "in a: 3; in b: 3; out lo: 3 = choose((a < b), a, b); out hi: 3 = choose((a < b), b, a);",
    "nothing": "in a: 1; out s: 1 = word(0, 1);",
}


def description_of(text):
    return parse("part c() { " + text + " } top c();")


def described(name):
    return description_of(TEXTS[name])


def chain(gates):
    """A text whose net has so many gates: whether no two inputs of some pairs are both 1."""
    pairs = [(j, k) for j in range(40) for k in range(j)][:(gates + 1) // 2]
    bits = [[f"cut(a{at // 8}, {at % 8}, 1)" for at in pair] for pair in pairs]
    tests = [f"not(({one} & {other}))" for one, other in bits]
    lines = [f"let x{k}: 1 = {test if k == 0 else f'(x{k - 1} & {test})'};" for k, test in enumerate(tests)]
    words = [f"in a{k}: 8;" for k in range(5)]
    last = [] if gates % 2 else ["out t: 1 = (cut(a4, 7, 1) & cut(a4, 6, 1));"]
    return " ".join(words + lines + last + [f"out s: 1 = x{len(tests) - 1};"])


STEPS = {
    "net": lambda made: blast(made["flat"]),
    "tidy": lambda made: tidied(made["net"]),
    "swept": lambda made: swept(made["tidy"][0]),
    "small": lambda made: tidied(made["swept"][0]),
    "retimed": lambda made: retimed(made["small"][0]),
    "last": lambda made: tidied(made["retimed"][0]),
    "covered": lambda made: covered(made["last"][0], min(made["fabric"][4], 4)),
    "cells": lambda made: packed(made["last"][0], made["covered"][0]),
    "plan": lambda made: placed(made["cells"], made["fabric"]),
    "routed": lambda made: routed(made["cells"], made["fabric"], made["plan"]),
    "bits": lambda made: bits_of(made["routed"][0]),
}

KEYS = ["flat"] + list(STEPS)


def remade(dossier, key, worth):
    """A dossier with something else under a key, and all steps behind it made again from that."""
    made = dict(dossier)
    made[key] = worth
    for other in (KEYS[KEYS.index(key) + 1:] if key in KEYS else KEYS[1:]):
        made[other] = STEPS[other](made)
    return made
