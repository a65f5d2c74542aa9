"""The forms of points 56 to 59 as a grammar, and where a text leaves it.

A symbol is a string of the characters that may stand at one place, or a tuple that stands for one of several rows
of symbols. A line is followed with all rows at once that it may still have, so nothing here looks ahead.
"""

import re
from math import gcd

NINE = "123456789"
FORMS = {
    "choice": "N N", "groups": "L L", "rooms": "N ROOMS", "web": "N LL", "vectors": "LL N", "seats": "N LL",
    "told": "N LL", "both": "F F", "short": "F N", "mirror": "F", "minor": "F L L"}
SYMBOLS = {"N": ("number", 7), "L": ("several", ("number", 7)), "LL": ("several", ("several", ("number", 7))),
           "ROOMS": ("several", ("room",)), "F": ("family",)}


def row(*parts):
    """A row of symbols; words are spelled, and what stands for others stands as it is."""
    symbols = []
    for part in parts:
        symbols += list(part) if isinstance(part, str) else [part]
    return tuple(symbols)


def family_rows():
    rows = []
    for word, told in FORMS.items():
        parts = []
        for name in told.split():
            parts += [" ", SYMBOLS[name]]
        rows.append(row("(" + word, *parts, ")"))
    return rows


def rows_of(symbol):
    """The rows for one of which a symbol stands."""
    kind = symbol[0]
    if kind == "digits":
        return [()] + ([("0" + NINE, ("digits", symbol[1] - 1))] if symbol[1] else [])
    if kind == "number":
        some = (NINE, ("digits", symbol[1] - 1))
        return [("0",), some, ("-",) + some]
    if kind == "ratio":
        some = (NINE, ("digits", 2000), ("over",))
        return [("0",), some, ("-",) + some]
    if kind == "over":
        return [(), ("/", NINE, ("digits", 2000))]
    if kind == "several":
        return [("(", ")"), ("(", symbol[1], ("more", symbol[1]))]
    if kind == "more":
        return [(")",), (" ", symbol[1], ("more", symbol[1]))]
    if kind == "room":
        return [row("(", SYMBOLS["L"], " ", SYMBOLS["N"], ")")]
    if kind == "family":
        return family_rows()
    if kind == "family line":
        return [row("family ", ("family",))]
    if kind == "costs line":
        return [row("costs", ("numbers",))]
    if kind == "numbers":
        return [(), row(" ", ("number", 7), ("numbers",))]
    if kind == "wish line":
        return [row("wish", ("weights",))]
    if kind == "weights":
        return [row(" ", ("number", 7), ("weights",)), row(" most ", ("number", 7), ("least",)),
                (("least",),)]
    return {"least": [(), row(" least ", ("number", 7))], "mixture line": [row(("ratio",), ("numbers",))],
            "price line": [row(("ratio",))],
            "ladder line": [row("base"), row("drop ", ("number", 2001)),
                            row("split", *[" ", ("number", 2001)] * (symbol[1] if len(symbol) > 1 else 0), " ",
                                ("ratio",), " ", ("ratio",))]}[kind]


def opened(stacks):
    """The stacks whose first symbols are characters, or which are empty."""
    done, todo = set(), list(stacks)
    while todo:
        stack = todo.pop()
        if stack and isinstance(stack[0], tuple):
            todo += [tuple(some) + stack[1:] for some in rows_of(stack[0])]
        else:
            done.add(stack)
    return done


class Course:
    """A line that is followed character by character, for lines of one kind."""

    def __init__(self, symbol, line):
        self.line = line
        self.states = [opened([(symbol,)])]
        for character in line:
            self.states.append(self.after(self.states[-1], character))

    @staticmethod
    def after(stacks, character):
        return opened([stack[1:] for stack in stacks if stack and character in stack[0]])

    def wrong(self, line=None, same=0):
        """The column in which a line is wrong, None if it is right; its first characters are those of this line."""
        line = self.line if line is None else line
        stacks, depth = self.states[same], line[:same].count("(") - line[:same].count(")")
        for at, character in enumerate(line[same:], same):
            depth += (character == "(") - (character == ")")
            stacks = self.after(stacks, character)
            if not stacks or depth > 60:
                return at + 1
        return None if () in stacks else len(line) + 1


def wrong_ratio(line, places):
    """The column after the first denominator that is 1 or has a common divisor; the ratios are these words."""
    for at, found in enumerate(re.finditer(r"[^ ]+", line)):
        parts = re.fullmatch(r"(-?\d{1,2001})/(\d{1,2001})(.*)", found[0])
        if at in places and parts and parts[1][-1:] != "" and parts[2][0] != "0":
            if int(parts[2]) == 1 or gcd(int(parts[1]), int(parts[2])) > 1:
                return found.start() + len(parts[1]) + 1 + len(parts[2]) + 1
    return None


def wrong_line(symbol, line):
    """The column in which a line of a paper is wrong, or None."""
    column = Course(symbol, line).wrong()
    words = line.split(" ")
    places = {"price line": {0}, "mixture line": {0}}.get(symbol[0])
    if places is None:
        places = {symbol[1] + 1, symbol[1] + 2} if words[0] == "split" else set()
    other = wrong_ratio(line, places)
    return min([value for value in (column, other) if value is not None], default=None)


def changes(text, characters):
    """A text with one character inserted, replaced or removed at every place, and cut at every place.

    Tuples of the changed text and of the number of its characters that surely are the same.
    """
    for at in range(len(text) + 1):
        yield text[:at], at
        for character in characters:
            yield text[:at] + character + text[at:], at
            if at < len(text):
                yield text[:at] + character + text[at + 1:], at
        if at < len(text):
            yield text[:at] + text[at + 1:], at
