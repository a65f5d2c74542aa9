"""Rooms: lots that lie within each other or apart, each with a greatest number of things."""

from nodearer.errors import CrossError
from nodearer.exact.masks import mask_of
from nodearer.families.family import Family
from nodearer.families.tables import ranks_under_rooms
from nodearer.looks import look_lot, look_number, look_size, look_things

_MOST_ROOMS = 10
_MOST_NUMBER = 10


class Rooms(Family):
    """The family whose free lots have no more things of any room than its greatest number."""

    def __init__(self, things, rooms):
        look_things(things)
        look_size(len(rooms), 0, _MOST_ROOMS)
        looked = []
        for lot, most in rooms:
            room = look_lot(things, lot)
            look_number(most, 0, _MOST_NUMBER)
            looked.append((room, most))
        self.rooms = tuple(looked)
        _look_crossing([mask_of(lot) for lot, _ in self.rooms])
        Family.__init__(self, things, ranks_under_rooms(things, self.rooms), 1)


def _look_crossing(masks):
    """Refuse the first room that crosses one before it."""
    for second, mask in enumerate(masks):
        for first in range(second):
            both = mask & masks[first]
            # Two rooms do not cross if what they have in common is nothing, or one of them.
            if both not in (0, mask, masks[first]):
                raise CrossError(first, second)
