"""Curves: the values of a book for each greatest number that a wish may have."""

from nodearer.errors import WishError
from nodearer.looks import look_costs
from nodearer.prices.settle import value_of
from nodearer.wishes.books import Book, look_wish
from nodearer.wishes.wishes import Wish


def curve(book, costs, at):
    """Return the list of the values with the greatest numbers 0, 1, 2 and so on; None where the book is refused."""
    look_costs(book.family.things, costs)
    look_wish(book, at)
    wish = book.wishes[at]
    # A wish without a least number has a greatest one.
    if not wish.plain or wish.least is not None:
        raise WishError(at)
    return [value_of(_with_most(book, at, number), costs) for number in range(len(wish.lot) + 1)]


def _with_most(book, at, number):
    """Return the book in which a wish has this greatest number and no least number."""
    wishes = list(book.wishes)
    wishes[at] = Wish(wishes[at].weights, most=number)
    return Book(book.family, wishes)
