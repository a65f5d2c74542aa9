"""Fronts: planning tasks whose choices are the lots of a book with costs."""

from nodearer.looks import look_costs, look_lot
from nodearer.prices.settle import settle


class Front:
    """A book and costs; the classes below it tell them in the words of a task."""

    def __init__(self, book, costs):
        look_costs(book.family.things, costs)
        self.book = book
        self.costs = tuple(costs)

    def solve(self):
        """Return the answer of settling the book for the costs."""
        return settle(self.book, self.costs)

    def words(self, lot):
        """Return a string for each thing of a lot."""
        return [f"thing {thing}" for thing in look_lot(self.book.family.things, lot)]
