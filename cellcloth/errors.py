"""The errors of the program: all are classes directly under ClothError."""


class ClothError(ValueError):
    """The base class of all errors of the program."""


class TextError(ClothError):
    """A text that is no description; `line` is counted from 1."""

    def __init__(self, line):
        ClothError.__init__(self, f"the text does not fit in line {line}")
        self.line = line


class BitsError(ClothError):
    """Bits that are no config; `at` is the place of the first wrong bit."""

    def __init__(self, at):
        ClothError.__init__(self, f"the bits do not fit at {at}")
        self.at = at


class KindError(ClothError):
    """Something of a wrong form; `place` names it."""

    def __init__(self, place):
        ClothError.__init__(self, f"not as it has to be: {place}")
        self.place = place


class FitError(ClothError):
    """Something that is too small for what has to go into it; `kind` tells what."""

    def __init__(self, kind):
        ClothError.__init__(self, f"does not fit: {kind}")
        self.kind = kind


class LimitError(ClothError):
    """More than the program takes; `kind` tells of what."""

    def __init__(self, kind):
        ClothError.__init__(self, f"too much: {kind}")
        self.kind = kind


class LoopError(ClothError):
    """Things that depend on themselves; `places` lists them."""

    def __init__(self, places):
        ClothError.__init__(self, f"on circles: {places}")
        self.places = places
