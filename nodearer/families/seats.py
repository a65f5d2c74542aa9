"""Seats: things that fit some seats, of which the lots that can sit down are free."""

from nodearer.errors import LotError, NumberError
from nodearer.exact.masks import mask_of, sizes_of_masks
from nodearer.families.family import Family
from nodearer.families.tables import ranks_of_free
from nodearer.looks import look_lot, look_number, look_numbers, look_size

_MOST_SEATS = 10
_MOST_THINGS = 10
_MOST_FITS = 20


class Seats(Family):
    """The family of the lots whose things can sit down at the same time."""

    def __init__(self, seats, fits):
        look_seats(seats, fits)
        for fit in fits:
            for seat in fit:
                if seat >= seats:
                    raise NumberError(seat)
        self.seats = seats
        self.fits = tuple([tuple(sorted(set(fit))) for fit in fits])
        things = len(self.fits)
        Family.__init__(self, things, ranks_of_free(things, _free(seats, self.fits)), 1)

    def seating(self, lot):
        """Return a list of tuples (thing, seat) for the things of a free lot."""
        looked = look_lot(self.things, lot)
        if self.ranks[mask_of(looked)] < len(looked):
            raise LotError(looked)
        taken = [None] * self.seats
        for thing in looked:
            self._sit(thing, taken, [False] * self.seats)
        return sorted([(thing, seat) for seat, thing in enumerate(taken) if thing is not None])

    def _sit(self, thing, taken, tried):
        """Give a thing a seat, and those who sit there others if needed; tell whether this was possible."""
        for seat in self.fits[thing]:
            if tried[seat]:
                continue
            tried[seat] = True
            if taken[seat] is None or self._sit(taken[seat], taken, tried):
                taken[seat] = thing
                return True
        return False


def look_seats(seats, fits):
    """Look at a number of seats and at the seats that each thing fits."""
    look_number(seats, 0, _MOST_SEATS)
    look_size(len(fits), 0, _MOST_THINGS)
    for fit in fits:
        look_size(len(fit), 0, _MOST_FITS)
        look_numbers(fit, 0, _MOST_SEATS - 1)


def _free(seats, fits):
    """Tell of all lots, by their masks, whether each part of the lot fits at least as many seats as it has things."""
    reached = [0]
    for fit in fits:
        reached = reached + [seen | mask_of(fit) for seen in reached]
    things = len(fits)
    sizes = sizes_of_masks(things)
    seen_sizes = sizes_of_masks(seats)
    free = []
    for mask, seen in enumerate(reached):
        parts = [free[mask ^ (1 << thing)] for thing in range(things) if (mask >> thing) & 1]
        free.append(all(parts) and seen_sizes[seen] >= sizes[mask])
    return free
