"""Answers of books: refusals, and settlements with a mixture, prices, a value and a plan. Both are papers."""

from nodearer.errors import LotError
from nodearer.exact.lots import sum_of_costs
from nodearer.exact.ratios import Ratio, scaled
from nodearer.looks import look_costs, look_numbers, look_size
from nodearer.prices.judges import judge_bound, judge_refusal
from nodearer.shares.mixtures import Mixture
from nodearer.shares.peel import is_mixture_of_bases
from nodearer.walks.near import is_near_mixture
from nodearer.wishes.books import MOST_WISHES, unkept_wish

_MOST_PLAN = 10
_MOST_THING = 9


class Answer:
    """What settling a book gives."""

    KIND = "open"


class Refusal(Answer):
    """Prices that refuse a book."""

    KIND = "refusal"

    def __init__(self, prices):
        look_size(len(prices), 0, MOST_WISHES)
        self.prices = tuple(prices)

    def holds(self, book, costs):
        """Tell whether the prices refuse the book."""
        look_costs(book.family.things, costs)
        return judge_refusal(book, self.prices)


class Settlement(Answer):
    """A cheapest mixture that keeps the wishes on average, what shows that it is one, and a plan no dearer."""

    KIND = "settlement"

    def __init__(self, mixture, prices, value, near, plan):
        look_size(len(prices), 0, MOST_WISHES)
        look_size(len(plan), 0, _MOST_PLAN)
        look_numbers(plan, 0, _MOST_THING)
        if list(plan) != sorted(set(plan)):
            raise LotError(plan)
        self.mixture = mixture
        self.prices = tuple(prices)
        self.value = value
        self.near = near
        self.plan = tuple(plan)

    def holds(self, book, costs):
        """Tell whether the settlement is right for the book and the costs."""
        look_costs(book.family.things, costs)
        if not isinstance(self.mixture, Mixture) or not isinstance(self.value, Ratio):
            return False
        shares = self.mixture.shares
        if not is_mixture_of_bases(book.family, shares, self.mixture) or not is_near_mixture(book, shares, self.near):
            return False
        parts, whole = scaled(shares)
        mean = sum([part * cost for part, cost in zip(parts, costs)])
        if unkept_wish(book, parts, whole) is not None or mean * self.value.den != self.value.num * whole:
            return False
        return judge_bound(book, costs, self.value, self.prices) and self.plan == cheapest_lot(self.near, costs)


def cheapest_lot(mixture, costs):
    """Return the first of the lots of a mixture that cost least."""
    return min([lot for _, lot in mixture.pairs], key=lambda lot: sum_of_costs(costs, lot))
