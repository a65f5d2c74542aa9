"""Drawing the lots of a mixture by numbers."""

from nodearer.exact.ratios import scaled
from nodearer.looks import look_number

MOST_DRAWN = 10 ** 60


def period_of(mixture):
    """Return the least common denominator of the weights of a mixture."""
    return scaled([weight for weight, _ in mixture.pairs])[1]


def drawn(mixture, number):
    """Return the lot that is drawn by a number."""
    look_number(number, 0, MOST_DRAWN)
    parts, period = scaled([weight for weight, _ in mixture.pairs])
    rest = number % period
    at = 0
    while rest >= parts[at]:
        rest = rest - parts[at]
        at += 1
    return mixture.pairs[at][1]
