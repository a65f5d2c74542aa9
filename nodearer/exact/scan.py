"""Reading numbers and ratios at a place of a line.

Each function returns what it has read and the place behind it. What may follow there is the caller's matter,
so a digit behind the last one that is allowed is left for the caller to refuse.
"""

from math import gcd

from nodearer.errors import TextError

_DIGITS = "0123456789"
_MOST_DIGITS = 2001


def _positive_at(text, at, line, most):
    """Read digits that do not begin with a zero, at most so many."""
    if at >= len(text) or text[at] not in _DIGITS or text[at] == "0":
        raise TextError(line, at + 1)
    end = at + 1
    while end < len(text) and end < at + most and text[end] in _DIGITS:
        end = end + 1
    return int(text[at:end]), end


def integer_at(text, at, line, most):
    """Read an integer with at most so many digits: (integer, end)."""
    first = text[at:at + 1]
    if first == "0":
        return 0, at + 1
    if first != "-":
        return _positive_at(text, at, line, most)
    number, end = _positive_at(text, at + 1, line, most)
    return -number, end


def ratio_at(text, at, line):
    """Read the text of a ratio: (numerator, denominator, end). Whether they are in bounds is not looked at."""
    num, end = integer_at(text, at, line, _MOST_DIGITS)
    if num == 0 or text[end:end + 1] != "/":
        return num, 1, end
    den, stop = _positive_at(text, end + 1, line, _MOST_DIGITS)
    if den == 1 or gcd(num, den) > 1:
        raise TextError(line, stop + 1)
    return num, den, stop
