"""Attempts at a routing: shapes and tracks of sources that are changed one by one until no two are in each other's way.

An attempt may fail where there is a routing, but it often finds one fast where the search among clauses takes long.
"""


class Attempt:
    """A shape and a track for each source.

    `rivals` has for each source, for both shapes, the list of the other sources with their shapes that share a wire
    with it. `crowds` has for each source, shape and track how many others would be in its way there. `barred` has for
    what was given up the turn until which it is not taken again.
    """

    def __init__(self, masks, tracks):
        self.shapes = [0] * len(masks)
        self.tracks = [at % tracks for at in range(len(masks))]
        self.rivals = [[_rivals_of(masks, at, shape) for shape in range(2)] for at in range(len(masks))]
        self.crowds = [[[0] * tracks for _ in range(2)] for _ in masks]
        self.barred = {}
        self.turn = 0
        self.word = 1
        for at in range(len(masks)):
            self._count(at, 1)

    def succeeds(self, most):
        """Returns whether no two sources are in each other's way by so many more turns at most."""
        last = self.turn + most
        crowded = self._crowded()
        while crowded and self.turn < last:
            self.turn += 1
            self._change(crowded)
            crowded = self._crowded()
        return not crowded

    def routing(self):
        """Returns the shapes, and the tracks by other numbers, in the order in which the sources need them."""
        numbers = {}
        return list(self.shapes), [numbers.setdefault(track, len(numbers)) for track in self.tracks]

    def _crowded(self):
        """Returns the sources that others are in the way of."""
        return [at for at, (shape, track) in enumerate(zip(self.shapes, self.tracks))
                if self.crowds[at][shape][track] > 0]

    def _change(self, crowded):
        """Gives one of the crowded sources another shape or track, where the fewest are in its way."""
        best = None
        choices = []
        for at in crowded:
            here = self.crowds[at][self.shapes[at]][self.tracks[at]]
            for shape, row in enumerate(self.crowds[at]):
                for track, others in enumerate(row):
                    change = others - here
                    if (best is None or change <= best) and self._is_open((at, shape, track)):
                        choices = choices if change == best else []
                        best = change
                        choices.append((at, shape, track))
        if choices:
            choice = choices[self._next_word() % len(choices)]
            self._take(choice, self.turn + 6 * len(crowded) // 10 + self._next_word() % 10)

    def _is_open(self, choice):
        """Returns whether a choice is another one than now, and is not barred."""
        at, shape, track = choice
        is_now = shape == self.shapes[at] and track == self.tracks[at]
        return not is_now and self.barred.get(choice, -1) < self.turn

    def _take(self, choice, until):
        at, shape, track = choice
        self._count(at, -1)
        self.barred[(at, self.shapes[at], self.tracks[at])] = until
        self.shapes[at] = shape
        self.tracks[at] = track
        self._count(at, 1)

    def _count(self, at, by):
        """Adds to the crowds of the others what a source does to them."""
        track = self.tracks[at]
        for other, shape in self.rivals[at][self.shapes[at]]:
            self.crowds[other][shape][track] += by

    def _next_word(self):
        # The same words in each attempt; their high bits change without a plain pattern.
        self.word = (self.word * 1103515245 + 12345) & 0x7FFFFFFF
        return self.word >> 16


def _rivals_of(masks, at, shape):
    mask = masks[at][shape]
    return [(other, number) for other, pair in enumerate(masks) if other != at
            for number, wires in enumerate(pair) if wires & mask]
