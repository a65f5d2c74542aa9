"""Settling a book: the cheapest mixture that keeps its wishes on average, or prices that refuse it."""

from nodearer.exact.lots import sum_of_costs
from nodearer.exact.ratios import Ratio, scaled
from nodearer.exact.simplex import optimum
from nodearer.looks import look_costs
from nodearer.prices.answers import Refusal, Settlement, cheapest_lot
from nodearer.shares.mixtures import made_mixture, mixture_with
from nodearer.wishes.plain import near_bases


def settle(book, costs):
    """Return a refusal, or a settlement."""
    look_costs(book.family.things, costs)
    mixture, prices = _best_mixture(book, costs)
    if mixture is None:
        return Refusal(prices)
    near = mixture_with(book.family.things, near_bases(book), mixture.shares)
    return Settlement(mixture, prices, mixture.mean(costs), near, cheapest_lot(near, costs))


def value_of(book, costs):
    """Return the value of a book, or None if it is refused."""
    look_costs(book.family.things, costs)
    mixture, _ = _best_mixture(book, costs)
    return None if mixture is None else mixture.mean(costs)


def _best_mixture(book, costs):
    """Return a cheapest mixture that keeps the wishes on average, or None, and the prices that show this.

    A book has at most 252 bases, so one small program has a column for each of them.
    """
    bases = list(book.family.bases())
    bounds = _bounds_of(book)
    rows = [[1] * len(bases) + [0] * len(bounds)]
    for at, (place, sign, _) in enumerate(bounds):
        counts = [book.wishes[place].count_of(lot) for lot in bases]
        rows.append(counts + [sign if other == at else 0 for other in range(len(bounds))])
    sums = [1] + [number for _, _, number in bounds]
    answer = optimum(rows, sums, [sum_of_costs(costs, lot) for lot in bases] + [0] * len(bounds))
    prices = [Ratio(0) for _ in book.wishes]
    for (place, _, _), price in zip(bounds, answer[-1][1:]):
        prices[place] = prices[place] - price
    if answer[0] == "none":
        return None, prices
    parts, whole = scaled(answer[1][:len(bases)])
    return made_mixture(book.family.things, {lot: part for lot, part in zip(bases, parts) if part}, whole), prices


def _bounds_of(book):
    """Return the numbers of the wishes: tuples of an index, a sign (1 for a greatest number) and the number."""
    bounds = []
    for at, wish in enumerate(book.wishes):
        if wish.most is not None:
            bounds.append((at, 1, wish.most))
        if wish.least is not None:
            bounds.append((at, -1, wish.least))
    return bounds
