"""Points 4, 5 and 16 for rooms."""

from random import Random

from nodearer.errors import CrossError, NumberError, SizeError, ThingError
from nodearer.families.rooms import Rooms
from tests.helpers import Case, greatest


def some_rooms(random, things):
    """Rooms that do not cross: each new lot is kept only if it crosses none before it."""
    rooms = []
    for _ in range(random.randrange(9)):
        lot = {x for x in range(things) if random.randrange(2)}
        if all(not (lot & set(other)) or lot <= set(other) or set(other) <= lot for other, _ in rooms):
            rooms.append((sorted(lot, reverse=True), random.randint(0, 3)))
    return rooms


class RoomsTest(Case):
    def test_definition(self):
        random = Random(10)
        nested = 0
        for _ in range(60):
            things = random.randrange(7)
            rooms = some_rooms(random, things)
            nested += len(rooms) > 3
            family = Rooms(things, rooms)
            self.exact(family.rooms, tuple((tuple(sorted(lot)), most) for lot, most in rooms))
            bases = greatest(things, lambda lot: all(len(set(lot) & set(room)) <= most for room, most in rooms))
            self.family_is(family, things, bases)
        self.assertGreater(nested, 5)

    def test_edges(self):
        self.family_is(Rooms(3, []), 3, [(0, 1, 2)])
        self.family_is(Rooms(3, [([], 0)]), 3, [(0, 1, 2)])
        self.family_is(Rooms(3, [([0, 1], 1), ((1, 0, 0), 2)]), 3, [(0, 2), (1, 2)])
        self.family_is(Rooms(3, [([0, 1], 2), ([0, 1], 0)]), 3, [(2,)])
        self.family_is(Rooms(2, ()), 2, [(0, 1)])
        self.family_is(Rooms(5, [(list(range(at, 5)), 4 - at) for at in range(5)]), 5, [(0, 1, 2, 3)])
        self.assertEqual(Rooms(10, [(list(range(at, 10)), 9 - at) for at in range(10)]).sure, tuple(range(9)))
        self.exact(Rooms(2, [([1, 1, 0, 1], 10)]).rooms, (((0, 1), 10),))

    def test_lists_are_copied(self):
        lot = [0, 1]
        rooms = [(lot, 1)]
        family = Rooms(2, rooms)
        lot.clear()
        rooms.clear()
        self.exact(family.rooms, (((0, 1), 1),))
        self.assertEqual(list(family.bases()), [(0,), (1,)])

    def test_crossing(self):
        self.refused(CrossError, (0, 1), Rooms, 3, [([0, 1], 1), ([1, 2], 1)])
        self.refused(CrossError, (1, 2), Rooms, 4, [([0], 1), ([0, 1], 1), ([1, 2], 1), ([2, 3], 1)])
        self.refused(CrossError, (1, 3), Rooms, 5, [([4], 1), ([0, 1], 1), ([2, 3], 1), ([1, 2], 1), ([0, 4], 1)])
        self.refused(CrossError, (0, 2), Rooms, 4, [([0, 1], 1), ([2, 3], 1), ([0, 2], 9)])

    def test_rooms_that_do_not_cross(self):
        Rooms(4, [([0, 1], 1), ([0, 1], 2), ([0], 1), ([0, 1, 2], 3), ([3], 0), ([], 5), ([0, 1, 2, 3], 4)])

    def test_refusals(self):
        self.refused(NumberError, (11,), Rooms, 11, [([0], 99)] * 11)
        self.refused(NumberError, (-1,), Rooms, -1, [])
        self.refused(SizeError, (11,), Rooms, 3, [([7], 1)] * 11)
        self.refused(SizeError, (61,), Rooms, 3, [([0], 1), ([7] * 61, 99)])
        self.refused(ThingError, (3,), Rooms, 3, [([0, 3], 99), ([0], 99)])
        self.refused(NumberError, (11,), Rooms, 3, [([0], 11), ([9], 1)])
        self.refused(NumberError, (-1,), Rooms, 3, [([0], -1)])
        self.refused(ThingError, (9,), Rooms, 3, [([0, 1], 1), ([1, 2], 1), ([9], 1)])
        self.refused(NumberError, (12,), Rooms, 3, [([0, 1], 1), ([1, 2], 1), ([0], 12)])
        Rooms(10, [([], 10)] * 10)
