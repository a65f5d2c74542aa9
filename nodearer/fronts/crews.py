"""Crews: a person for each seat, with traits as in a panel."""

from nodearer.errors import GapError, LotError
from nodearer.families.seats import Seats, look_seats
from nodearer.fronts.front import Front
from nodearer.fronts.traits import looked_costs, looked_traits, wishes_of
from nodearer.looks import look_lot
from nodearer.wishes.books import Book


class Crew(Front):
    """All seats are to be taken by people who fit them."""

    def __init__(self, seats, fits, traits, *, costs=None):
        look_seats(seats, fits)
        people = len(fits)
        looked = looked_traits(people, traits)
        paid = looked_costs(people, costs)
        family = Seats(seats, fits)
        if family.full < seats:
            raise GapError(family.full)
        Front.__init__(self, Book(family, wishes_of(people, looked)), paid)
        self.seats = seats
        self.fits = family.fits
        self.traits = looked

    def seating(self, lot):
        """Return the list of the people of a base, one for each seat."""
        looked = look_lot(self.book.family.things, lot)
        if not self.book.family.is_base(looked):
            raise LotError(looked)
        sitting = [(seat, person) for person, seat in self.book.family.seating(looked)]
        return [person for _, person in sorted(sitting)]

    def words(self, lot):
        """Return a string for each seat."""
        return [f"seat {seat}: person {person}" for seat, person in enumerate(self.seating(lot))]
