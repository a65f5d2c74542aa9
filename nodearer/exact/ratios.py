"""Ratios: exact fractions in lowest terms."""

from math import gcd, lcm

from nodearer.errors import NumberError, TextError
from nodearer.exact.scan import ratio_at
from nodearer.looks import look_number, look_size

MOST = (10 ** 50) ** 40
_MOST_COMMON = ((10 ** 50) ** 40) ** 5
_MOST_TERMS = 1000
_MOST_CHARACTERS = 5000


class Ratio:
    """The ratio num / den."""

    def __init__(self, num, den=1):
        look_number(num, -MOST, MOST)
        look_number(den, 1, MOST)
        shared = gcd(num, den)
        self.num = num // shared
        self.den = den // shared

    def __add__(self, other):
        num, den = _parts(other)
        return ratio_of(self.num * den + num * self.den, self.den * den)

    def __sub__(self, other):
        num, den = _parts(other)
        return ratio_of(self.num * den - num * self.den, self.den * den)

    def __mul__(self, other):
        num, den = _parts(other)
        return ratio_of(self.num * num, self.den * den)

    def __neg__(self):
        return Ratio(-self.num, self.den)

    def __abs__(self):
        return Ratio(abs(self.num), self.den)

    def __eq__(self, other):
        return isinstance(other, Ratio) and self.num == other.num and self.den == other.den

    def __bool__(self):
        return bool(self.num != 0)

    def __str__(self):
        if self.den == 1:
            return str(self.num)
        return f"{self.num}/{self.den}"

    def over(self, other):
        """Return the quotient of two ratios."""
        if other.num == 0:
            raise NumberError(0)
        if other.num < 0:
            return ratio_of(-self.num * other.den, -self.den * other.num)
        return ratio_of(self.num * other.den, self.den * other.num)

    def compare(self, other):
        """Return -1, 0 or 1, if this ratio is less than, equal to or greater than the other one."""
        left = self.num * other.den
        right = other.num * self.den
        if left < right:
            return -1
        return 1 if left > right else 0

    def floor(self):
        """Return the greatest integer that is not greater."""
        return self.num // self.den

    def ceil(self):
        """Return the least integer that is not less."""
        return -(-self.num // self.den)

    @staticmethod
    def read(text):
        """Return the ratio with this text."""
        look_size(len(text), 0, _MOST_CHARACTERS)
        num, den, end = ratio_at(text, 0, 1)
        if end < len(text):
            raise TextError(1, end + 1)
        return Ratio(num, den)

    @staticmethod
    def total(ratios):
        """Return the sum of a list of ratios; only the sum must be in the bounds of a ratio."""
        look_size(len(ratios), 0, _MOST_TERMS)
        den = 1
        for ratio in ratios:
            den = lcm(den, ratio.den)
            look_number(den, 1, _MOST_COMMON)
        return ratio_of(sum([ratio.num * (den // ratio.den) for ratio in ratios]), den)


def ratio_of(num, den):
    """Make a ratio of a result; only its lowest terms must be in bounds."""
    shared = gcd(num, den)
    return Ratio(num // shared, den // shared)


def least_quotient(pairs):
    """Return the first pair (num, den) of the least quotient; no den is below 1."""
    least = pairs[0]
    for pair in pairs:
        if pair[0] * least[1] < least[0] * pair[1]:
            least = pair
    return least


def scaled(ratios):
    """Return integers and a positive integer by which they are to be divided to give the ratios."""
    den = 1
    for ratio in ratios:
        den = lcm(den, ratio.den)
    return [ratio.num * (den // ratio.den) for ratio in ratios], den


def _parts(other):
    """Return the numerator and the denominator of a ratio or of an integer."""
    if isinstance(other, Ratio):
        return other.num, other.den
    look_number(other, -MOST, MOST)
    return other, 1
