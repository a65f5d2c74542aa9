"""Judges of prices and of shares that come as papers."""

from nodearer.errors import NodearerError
from nodearer.exact.ratios import scaled
from nodearer.judging import are_ratios
from nodearer.looks import look_costs
from nodearer.prices.charges import least_part, unfit_price


def judge_refusal(book, prices):
    """Tell whether prices refuse a book."""
    if not are_fitting(book, prices):
        return False
    parts, whole = scaled(prices)
    return least_part(book, [0] * book.family.things, parts, whole) > 0


def judge_bound(book, costs, bound, prices):
    """Tell whether prices show a bound for a book and costs."""
    look_costs(book.family.things, costs)
    if not are_fitting(book, prices):
        return False
    parts, whole = scaled(prices)
    return least_part(book, costs, parts, whole) * bound.den >= bound.num * whole


def judge_shares(book, shares):
    """Tell whether a paper is a list of shares that fits a book."""
    if not are_ratios(shares, book.family.things):
        return False
    try:
        return book.fits_shares(shares)
    except NodearerError:
        return False


def are_fitting(book, prices):
    """Tell whether a paper is a list of prices that fit a book."""
    return are_ratios(prices, len(book.wishes)) and unfit_price(book, prices) is None
