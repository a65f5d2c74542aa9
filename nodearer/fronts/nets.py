"""Nets: cables between places, each of which has a number of ports."""

from nodearer.errors import NumberError
from nodearer.families.webs import Web
from nodearer.fronts.front import Front
from nodearer.looks import MOST_COST, look_lot, look_number, look_numbers, look_size
from nodearer.wishes.books import Book
from nodearer.wishes.wishes import Wish

_MOST_PLACES = 5
_MOST_CABLES = 10
_MOST_PORTS = 10


class Net(Front):
    """All places are to be joined by cables, and no place is to have more cables than ports."""

    def __init__(self, places, cables, ports):
        look_number(places, 1, _MOST_PLACES)
        look_size(len(cables), 0, _MOST_CABLES)
        for cable in cables:
            look_size(len(cable), 3, 3)
            look_numbers(cable[:2], 0, _MOST_PLACES - 1)
            look_number(cable[2], -MOST_COST, MOST_COST)
        look_size(len(ports), 1, _MOST_PLACES)
        look_numbers(ports, 0, _MOST_PORTS)
        _look_ends(places, cables)
        look_size(len(ports), places, places)
        self.places = places
        self.cables = tuple([tuple(cable) for cable in cables])
        self.ports = tuple(ports)
        ties = [cable[:2] for cable in self.cables]
        wishes = [Wish([1 if place in tie else 0 for tie in ties], most=most) for place, most in enumerate(ports)]
        Front.__init__(self, Book(Web(places, ties), wishes), [cost for _, _, cost in self.cables])

    def over(self, lot):
        """Return the list of the numbers by which the places have more cables of a lot than ports."""
        return self.book.missed(lot)

    def words(self, lot):
        """Return a string for each cable of a lot."""
        cables = [self.cables[thing] for thing in look_lot(len(self.cables), lot)]
        return [f"cable {one}-{two} at {cost}" for one, two, cost in cables]


def _look_ends(places, cables):
    """Refuse a place that is not there, and a cable that joins a place to itself."""
    for one, two, _ in cables:
        for place in (one, two):
            if place >= places:
                raise NumberError(place)
    for one, two, _ in cables:
        if one == two:
            raise NumberError(one)
