"""The texts of mixtures, prices and ladders, with one entry per line."""

from nodearer.exact.ratios import Ratio
from nodearer.looks import look_number, look_size, look_things
from nodearer.shares.mixtures import Mixture
from nodearer.texts.lines import look_text, readers_of
from nodearer.wishes.books import MOST_WISHES

_MOST_LINES = 1000
_MOST_DIGITS = 2001
_MOST_INTEGER = (10 ** 50) ** 40 * 10 - 1


def mixture_text(mixture):
    """Return the text of a mixture."""
    return "\n".join([" ".join([str(weight), *[str(thing) for thing in lot]]) for weight, lot in mixture.pairs])


def read_mixture(things, text):
    """Return the mixture with this text."""
    look_text(text)
    look_things(things)
    rows = [(reader.fraction(), reader.integers()) for reader in readers_of(text)]
    return Mixture(things, [(Ratio(num, den), lot) for (num, den), lot in rows])


def prices_text(prices):
    """Return the text of prices."""
    look_size(len(prices), 0, MOST_WISHES)
    return "\n".join([str(price) for price in prices])


def read_prices(text):
    """Return the list of the prices with this text."""
    look_text(text)
    told = []
    for reader in readers_of(text):
        told.append(reader.fraction())
        reader.finish()
    look_size(len(told), 0, MOST_WISHES)
    return [Ratio(num, den) for num, den in told]


def ladder_text(lines):
    """Return the text of a ladder."""
    look_size(len(lines), 0, _MOST_LINES)
    for line in lines:
        for number in _integers_of(line):
            look_number(number, -_MOST_INTEGER, _MOST_INTEGER)
    return "\n".join([_line_text(line) for line in lines])


def read_ladder(things, text):
    """Return the list of the deeds with this text; their directions have one entry for each thing."""
    look_text(text)
    look_things(things)
    told = [_read_line(reader, things) for reader in readers_of(text)]
    look_size(len(told), 0, _MOST_LINES)
    return [_deed_of(line) for line in told]


def _integers_of(line):
    """Return the list of the integers of a deed that may be too long."""
    if line[0] == "split":
        return list(line[1])
    return [line[1]] if line[0] == "drop" else []


def _line_text(line):
    words = [line[0]] + [str(number) for number in _integers_of(line)]
    return " ".join(words + [str(step) for step in line[2:]])


def _read_line(reader, things):
    """Read a line of a ladder; return its word, its integers and its ratios as pairs of integers."""
    word = reader.one_of(("base", "split", "drop"))
    integers = []
    fractions = []
    for _ in range(_many_integers(word, things)):
        reader.skip(" ")
        integers.append(reader.integer(_MOST_DIGITS))
    for _ in range(2 if word == "split" else 0):
        reader.skip(" ")
        fractions.append(reader.fraction())
    reader.finish()
    return word, integers, fractions


def _many_integers(word, things):
    if word == "split":
        return things
    return 1 if word == "drop" else 0


def _deed_of(line):
    """Make the deed of a line that has been read."""
    word, integers, fractions = line
    if word == "split":
        return (word, tuple(integers), *[Ratio(num, den) for num, den in fractions])
    return (word, *integers)
