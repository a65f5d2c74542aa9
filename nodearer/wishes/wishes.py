"""Wishes: so many things of a lot at most, or at least."""

from nodearer.errors import WishError
from nodearer.exact.ratios import ratio_of
from nodearer.looks import look_lot, look_number, look_numbers, look_size, look_things
from nodearer.shares.loads import MOST_WHOLE, look_shares

_MOST_WEIGHTS = 10
_MOST_WEIGHT = 20
MOST_NUMBER = 1000


class Wish:
    """Weights of things, and the greatest or the least number that the sum of the weights of a lot may have."""

    def __init__(self, weights, *, most=None, least=None):
        look_size(len(weights), 0, _MOST_WEIGHTS)
        look_numbers(weights, 0, _MOST_WEIGHT)
        for number in (most, least):
            if number is not None:
                look_number(number, -MOST_NUMBER, MOST_NUMBER)
        self.weights = tuple(weights)
        self.most = most
        self.least = least
        self.greatest = max(self.weights, default=0)
        self.plain = self.greatest <= 1
        self.lot = tuple([thing for thing, weight in enumerate(self.weights) if weight])
        if most is None and least is None:
            raise WishError(None)
        if least is not None and (not self.plain or (most is not None and least > most)):
            raise WishError(None)

    @classmethod
    def of(cls, things, lot, *, most=None, least=None):
        """Return the plain wish with this lot."""
        look_things(things)
        looked = look_lot(things, lot)
        return cls([1 if thing in looked else 0 for thing in range(things)], most=most, least=least)

    def count_in(self, lot):
        """Return the sum of the weights of the things of a lot."""
        return self.count_of(look_lot(len(self.weights), lot))

    def keeps(self, lot):
        """Tell whether the count of a lot is as wished."""
        return self.allows(self.count_in(lot), 1)

    def missed(self, lot):
        """Return by how much a lot misses the wish, 0 if it keeps it."""
        count = self.count_in(lot)
        if self.most is not None and count > self.most:
            return count - self.most
        if self.least is not None and count < self.least:
            return self.least - count
        return 0

    def mean_in(self, shares):
        """Return the mean count under shares."""
        parts, whole = look_shares(len(self.weights), shares, MOST_WHOLE)
        return ratio_of(self.total_of(parts), whole)

    def __eq__(self, other):
        return (isinstance(other, Wish) and self.weights == other.weights and self.most == other.most
                and self.least == other.least)

    def __str__(self):
        weights = [str(weight) for weight in self.weights]
        words = ["wish", *weights]
        if self.most is not None:
            words.append(f"most {self.most}")
        if self.least is not None:
            words.append(f"least {self.least}")
        return " ".join(words)

    def count_of(self, lot):
        """Return the sum of the weights of different things that have been looked at."""
        return sum([self.weights[thing] for thing in lot])

    def total_of(self, entries):
        """Return the sum of the weights, each multiplied by the entry of its thing."""
        return sum([weight * entry for weight, entry in zip(self.weights, entries)])

    def allows(self, total, whole):
        """Tell whether a count of so many parts of the whole is as wished."""
        if self.most is not None and total > self.most * whole:
            return False
        return self.least is None or total >= self.least * whole

    def is_just_met(self, total, whole):
        """Tell whether a count of so many parts of the whole is the greatest or the least number."""
        if self.most is not None and total == self.most * whole:
            return True
        return self.least is not None and total == self.least * whole
