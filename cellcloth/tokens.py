"""The tokens of a text (point 03.1), and a reader that goes through them."""

from cellcloth.errors import TextError

LETTERS = "abcdefghijklmnopqrstuvwxyzABCDEFGHIJKLMNOPQRSTUVWXYZ"
DIGITS = "0123456789"
LONGEST_NAME = 12
LONGEST_NUMBER = 7

LONG_SIGNS = ("==", "<<", ">>")
SHORT_SIGNS = "{}()[],;:=.&|^+*<"

WORDS = (
    "part", "top", "in", "out", "let", "reg", "from", "mem", "of", "when", "at", "put", "use",
    "machine", "to", "rows", "if", "else", "bits", "div", "mod", "max", "min", "word", "is",
    "not", "any", "all", "odd", "cut", "join", "choose", "read",
)


def tokens_of(text):
    """Returns the list of the tokens of a text, triples of a form, a text and a line.

    The forms are "name", "number", "sign" (the words of the grammar, too) and, as the last token, "end".
    """
    tokens = []
    at = 0
    line = 1
    while at < len(text):
        if text[at] == "\n":
            line += 1
            at += 1
        elif text[at] == " ":
            at += 1
        elif text[at] == "#":
            at = _end_of_line(text, at)
        else:
            end = _end_of_token(text, at)
            if end == at:
                raise TextError(line)
            tokens.append((_form_of(text[at:end]), text[at:end], line))
            at = end
    # A text that ends too early is blamed on its last token.
    tokens.append(("end", "", tokens[-1][2] if tokens else 1))
    return tokens


def _end_of_line(text, at):
    end = text.find("\n", at)
    return len(text) if end < 0 else end


def _end_of_run(text, at, characters):
    while at < len(text) and text[at] in characters:
        at += 1
    return at


def _end_of_token(text, at):
    """Returns where the longest token that begins at a place ends: at this place itself if there is none."""
    if text[at] in LETTERS:
        end = _end_of_run(text, at, LETTERS + DIGITS)
        return end if end - at <= LONGEST_NAME else at
    digits = at + 1 if text[at] == "-" else at
    end = _end_of_run(text, digits, DIGITS)
    if end > digits:
        return end if end - digits <= LONGEST_NUMBER else at
    if text[at] == "-":
        return at + 1
    if text[at:at + 2] in LONG_SIGNS:
        return at + 2
    return at + 1 if text[at] in SHORT_SIGNS else at


def _form_of(token):
    if token[0] in LETTERS:
        return "sign" if token in WORDS else "name"
    return "number" if token[-1] in DIGITS else "sign"


class Reader:
    """Goes through the tokens of a text from left to right."""

    def __init__(self, tokens):
        self.tokens = tokens
        self.done = 0
        self.twice = []

    def ahead(self):
        """Returns the text of the token that comes."""
        return self.tokens[self.done][1]

    def form(self):
        """Returns the form of the token that comes."""
        return self.tokens[self.done][0]

    def here(self):
        """Returns the line of the token that comes."""
        return self.tokens[self.done][2]

    def take(self, sign):
        """Goes behind the token that comes, which must be a sign or word of the grammar."""
        if self.form() != "sign" or self.ahead() != sign:
            raise TextError(self.here())
        self.done += 1

    def take_form(self, form):
        """Goes behind the token that comes, which must have a form, and returns its text."""
        if self.form() != form:
            raise TextError(self.here())
        token = self.ahead()
        self.done += 1
        return token

    def note_twice(self, names):
        """Keeps the lines of all names that were in a list of pairs of a name and a line before."""
        seen = {}
        for name, line in names:
            if name in seen:
                self.twice.append(line)
            seen[name] = True
