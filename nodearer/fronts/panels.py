"""Panels: so many people, of whom traits wish for some at most, or at least."""

from nodearer.families.counts import Choice
from nodearer.fronts.front import Front
from nodearer.fronts.traits import looked_costs, looked_traits, wishes_of
from nodearer.looks import look_lot, look_number, look_things
from nodearer.wishes.books import Book

_MOST_SIZE = 10


class Panel(Front):
    """A number of people is to be chosen."""

    def __init__(self, people, size, traits, *, costs=None):
        look_things(people)
        look_number(size, 0, _MOST_SIZE)
        looked = looked_traits(people, traits)
        paid = looked_costs(people, costs)
        family = Choice(people, size)
        Front.__init__(self, Book(family, wishes_of(people, looked)), paid)
        self.people = people
        self.size = size
        self.traits = looked

    def counts(self, lot):
        """Return the list of the numbers of people of a lot who have the traits."""
        looked = look_lot(self.people, lot)
        return [wish.count_of(looked) for wish in self.book.wishes]

    def words(self, lot):
        """Return a string for each person of a lot."""
        return [self._words_of(person) for person in look_lot(self.people, lot)]

    def _words_of(self, person):
        marks = [str(at) for at, (lot, _, _) in enumerate(self.traits) if person in lot]
        return " ".join([f"person {person}"] + (["has", *marks] if marks else []))
