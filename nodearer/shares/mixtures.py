"""Mixtures: lots with weights."""

from math import lcm

from nodearer.errors import SizeError, WeightError
from nodearer.exact.elimination import divided
from nodearer.exact.masks import place_of
from nodearer.exact.ratios import Ratio, ratio_of, scaled
from nodearer.exact.simplex import optimum
from nodearer.looks import look_costs, look_lot, look_number, look_size, look_things

_MOST_PAIRS = 1000
_MOST_PARTS = 20
_MOST_WHOLE = 10 ** 40
_MOST_RUNNING = (10 ** 50) ** 8


class Mixture:
    """A list of lots with positive weights whose sum is 1."""

    def __init__(self, things, pairs):
        look_things(things)
        look_size(len(pairs), 1, _MOST_PAIRS)
        running = 1
        lots = []
        for at, (weight, lot) in enumerate(pairs):
            running = _look_weight(at, weight, running)
            lots.append(look_lot(things, lot))
        parts, whole = _look_sum([weight for weight, _ in pairs])
        table = {}
        for part, lot in zip(parts, lots):
            table[lot] = table.get(lot, 0) + part
        _look_whole(table, whole)
        self.things = things
        self.pairs = _pairs_of(table, whole)
        self.shares = _shares_of(things, table, whole)

    def __len__(self):
        return len(self.pairs)

    def __iter__(self):
        return iter(self.pairs)

    def __eq__(self, other):
        return isinstance(other, Mixture) and self.things == other.things and self.pairs == other.pairs

    def weight_of(self, lot):
        """Return the weight of a lot, 0 if the mixture has not got it."""
        looked = look_lot(self.things, lot)
        for weight, other in self.pairs:
            if other == looked:
                return weight
        return Ratio(0)

    def mean(self, costs):
        """Return the mean cost."""
        look_costs(self.things, costs)
        parts, whole = scaled(self.shares)
        return ratio_of(sum([part * cost for part, cost in zip(parts, costs)]), whole)

    def trimmed(self):
        """Return a mixture of few lots of this mixture that has the same shares."""
        return mixture_with(self.things, [lot for _, lot in self.pairs], self.shares)

    @staticmethod
    def blend(things, parts):
        """Return the mixture of mixtures, each with a weight."""
        look_things(things)
        look_size(len(parts), 1, _MOST_PARTS)
        running = 1
        for at, (weight, _) in enumerate(parts):
            running = _look_weight(at, weight, running)
        weights, whole = _look_sum([weight for weight, _ in parts])
        for _, mixture in parts:
            if mixture.things != things:
                raise SizeError(mixture.things)
        inner = scaled([weight for _, mixture in parts for weight, _ in mixture.pairs])[1]
        table = {}
        for part, (_, mixture) in zip(weights, parts):
            for weight, lot in mixture.pairs:
                table[lot] = table.get(lot, 0) + part * weight.num * (inner // weight.den)
        _look_whole(table, whole * inner)
        return made_mixture(things, table, whole * inner)


def made_mixture(things, table, whole):
    """Return the mixture in which each lot of a dict has so many parts of the whole as its weight."""
    # The class would look at bounds that hold for the callers of the program only, so its fields are set here.
    mixture = Mixture(things, [(Ratio(1), [])])
    mixture.pairs = _pairs_of(table, whole)
    mixture.shares = _shares_of(things, table, whole)
    return mixture


def mixture_with(things, lots, shares):
    """Return a mixture of some of the lots that has these shares; there must be one.

    No lot of it is superfluous, so it has at most as many lots as there are things, and one more if lots of
    different sizes are among them.
    """
    parts, whole = scaled(shares)
    rows = [[1 if thing in lot else 0 for lot in lots] for thing in range(things)]
    point = optimum(rows + [[1] * len(lots)], parts + [whole], [0] * len(lots))[1]
    entries, den = scaled(point)
    return made_mixture(things, {lot: entry for lot, entry in zip(lots, entries) if entry}, den * whole)


def _look_weight(at, weight, running):
    """Look at a weight; return the least common denominator of the weights up to this one."""
    if weight.num <= 0:
        raise WeightError(at)
    more = lcm(running, weight.den)
    look_number(more, 1, _MOST_RUNNING)
    return more


def _look_sum(weights):
    """Refuse weights whose sum is not 1; return their parts and the whole."""
    parts, whole = scaled(weights)
    if sum(parts) != whole:
        raise WeightError(-1)
    return parts, whole


def _look_whole(table, whole):
    """Refuse weights of different lots whose least common denominator is too great."""
    look_number(divided([whole] + list(table.values()))[0], 1, _MOST_WHOLE)


def _pairs_of(table, whole):
    return tuple([(ratio_of(table[lot], whole), lot) for lot in sorted(table, key=place_of)])


def _shares_of(things, table, whole):
    return tuple([ratio_of(sum([part for lot, part in table.items() if thing in lot]), whole)
                  for thing in range(things)])
