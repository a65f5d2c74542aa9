"""Near mixtures and near bases."""

from nodearer.exact.lots import sum_of_costs
from nodearer.looks import look_costs
from nodearer.shares.loads import MOST_WHOLE, look_shares
from nodearer.shares.mixtures import Mixture, mixture_with
from nodearer.wishes.books import look_fitting
from nodearer.wishes.plain import near_bases


def near_mixture(book, shares):
    """Return a mixture of few near bases with exactly these shares."""
    look_shares(book.family.things, shares, MOST_WHOLE)
    look_fitting(book, shares)
    return mixture_with(book.family.things, near_bases(book), shares)


def near_base(book, shares, costs):
    """Return a near base that costs at most the sum of the costs multiplied by the shares."""
    look_shares(book.family.things, shares, MOST_WHOLE)
    look_costs(book.family.things, costs)
    look_fitting(book, shares)
    # The cheapest near base costs no more than the mean of a near mixture.
    return min(near_bases(book), key=lambda lot: sum_of_costs(costs, lot))


def judge_near(book, shares, mixture):
    """Tell whether a mixture is a near mixture for the shares."""
    look_shares(book.family.things, shares, MOST_WHOLE)
    return is_near_mixture(book, shares, mixture)


def is_near_mixture(book, shares, mixture):
    """Tell what judge_near tells, for shares with any denominator."""
    things = book.family.things
    if not isinstance(mixture, Mixture) or mixture.things != things or len(mixture.pairs) > max(1, things):
        return False
    return mixture.shares == tuple(shares) and all([book.is_near(lot) for _, lot in mixture.pairs])
