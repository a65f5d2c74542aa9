"""Charges of lots under prices, and the floors of books."""

from nodearer.errors import WeightError
from nodearer.exact.lots import sum_of_costs
from nodearer.exact.ratios import ratio_of, scaled
from nodearer.looks import look_costs, look_lot, look_size


def prices_fit(book, prices):
    """Tell whether prices above 0 stand only at greatest numbers and prices below 0 only at least numbers."""
    _look_prices(book, prices)
    return unfit_price(book, prices) is None


def charge_of(book, prices, lot):
    """Return the charge of a lot under prices that fit."""
    _look_prices(book, prices)
    looked = look_lot(book.family.things, lot)
    _look_fit(book, prices)
    parts, whole = scaled(prices)
    return ratio_of(charge_in(book, parts, looked), whole)


def floor_of(book, costs, prices):
    """Return the least sum of cost and charge of a base under prices that fit."""
    parts, whole = _look_charging(book, costs, prices)
    return ratio_of(least_part(book, costs, parts, whole), whole)


def lowest(book, costs, prices):
    """Return the first base whose sum of cost and charge is the floor for prices that fit."""
    parts, whole = _look_charging(book, costs, prices)
    return min(list(book.family.bases()), key=lambda lot: charged_cost(book, costs, parts, whole, lot))


def unfit_price(book, prices):
    """Return the index of the first price that does not fit, or None."""
    for at, (price, wish) in enumerate(zip(prices, book.wishes)):
        if (price.num > 0 and wish.most is None) or (price.num < 0 and wish.least is None):
            return at
    return None


def least_part(book, costs, parts, whole):
    """Return the floor for prices in parts of a whole, in such parts as well."""
    return min([charged_cost(book, costs, parts, whole, lot) for lot in book.family.bases()])


def charged_cost(book, costs, parts, whole, lot):
    """Return the sum of cost and charge for prices in parts of a whole, in such parts as well."""
    return sum_of_costs(costs, lot) * whole + charge_in(book, parts, lot)


def charge_in(book, parts, lot):
    """Return the charge of a lot that has been looked at, under prices in parts of a whole."""
    charges = []
    for part, wish in zip(parts, book.wishes):
        if part:
            charges.append(part * (wish.count_of(lot) - (wish.most if part > 0 else wish.least)))
    return sum(charges)


def _look_prices(book, prices):
    look_size(len(prices), len(book.wishes), len(book.wishes))


def _look_fit(book, prices):
    at = unfit_price(book, prices)
    if at is not None:
        raise WeightError(at)


def _look_charging(book, costs, prices):
    """Look at costs and at prices that must fit; return the parts of the prices and the whole."""
    look_costs(book.family.things, costs)
    _look_prices(book, prices)
    _look_fit(book, prices)
    return scaled(prices)
