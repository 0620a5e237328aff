"""Configs of many forms, made from a seed."""

from random import Random

from cellcloth.fabric import borders


def made_config(seed, most_wide=4, most_high=4, most_tracks=3, drives=(0, 1, 2, 3, 4, 5), kept=0.5):
    """A config without faults; its device may have circles."""
    random = Random(seed)
    fabric = ("fabric", random.randint(1, most_wide), random.randint(1, most_high), random.randint(1, most_tracks),
              random.randint(1, 4))
    _, wide, high, tracks, pins = fabric
    settings = []
    for _ in range(wide * high):
        is_kept = 1 if random.random() < kept else 0
        settings.append(("setting", random.randrange(2 ** 2 ** pins), is_kept, random.randint(0, 1),
                         [random.randrange(2 + 4 * tracks) for _ in range(pins)],
                         [random.choice(drives) for _ in range(4 * tracks)]))
    ends = [(x, y, side, track) for x, y, side in borders(fabric) for track in range(tracks)]
    ins = random.sample(ends, random.randint(0, min(len(ends), 9)))
    outs = random.sample(ends, random.randint(0, min(len(ends), 9)))
    return ("config", fabric, settings, ins, outs)
