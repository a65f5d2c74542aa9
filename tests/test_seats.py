"""Points 4, 5 and 16 for seats."""

from itertools import permutations
from random import Random

from nodearer.errors import LotError, NumberError, SizeError, ThingError
from nodearer.families.counts import Choice
from nodearer.families.seats import Seats
from tests.helpers import Case, greatest


def is_free(seats, fits, lot):
    """The things of the lot can sit down in some order."""
    return any(all(seat in fits[thing] for thing, seat in zip(lot, order)) for order in permutations(range(seats), len(lot)))


class SeatsTest(Case):
    def test_definition(self):
        random = Random(14)
        for _ in range(60):
            seats = random.randrange(5)
            fits = [[random.randrange(seats) for _ in range(random.randrange(4))] if seats else []
                    for _ in range(random.randrange(6))]
            family = Seats(seats, fits)
            self.exact((family.seats, family.fits), (seats, tuple(tuple(sorted(set(fit))) for fit in fits)))
            self.family_is(family, len(fits), greatest(len(fits), lambda lot: is_free(seats, fits, lot)))
            for base in family.bases():
                self.check_seating(family, list(reversed(base)))

    def check_seating(self, family, lot):
        seating = family.seating(lot)
        self.assertIs(seating.__class__, list)
        self.assertEqual([thing for thing, _ in seating], sorted(set(lot)))
        self.assertEqual(len({seat for _, seat in seating}), len(seating))
        for pair in seating:
            self.assertIs(pair.__class__, tuple)
            self.assertIn(pair[1], family.fits[pair[0]])

    def test_seatings(self):
        family = Seats(10, [[at, at + 1] for at in range(9)] + [[0]])
        self.check_seating(family, range(10))
        self.check_seating(family, [3, 3, 9, 0, 0])
        self.exact(family.seating([9]), [(9, 0)])
        self.exact(family.seating([]), [])
        family.seating([9]).clear()
        self.exact(family.seating([9]), [(9, 0)])
        ring = Seats(10, [(at, at + 1 - 10 * (at == 9)) for at in range(10)])
        self.check_seating(ring, range(10))

    def test_seatings_refused(self):
        family = Seats(2, [[0], [0], [1], []])
        self.refused(LotError, ((0, 1),), family.seating, [1, 0, 0])
        self.refused(LotError, ((3,),), family.seating, [3])
        self.refused(ThingError, (4,), family.seating, [0, 1, 4])
        self.refused(SizeError, (61,), family.seating, [9] * 61)
        self.check_seating(family, [0, 2])

    def test_edges(self):
        self.family_is(Seats(0, [[], []]), 2, [()])
        self.family_is(Seats(10, []), 0, [()])
        self.exact(Seats(3, [[2, 0, 2, 2]]).fits, ((0, 2),))
        self.assertEqual(Seats(4, [list(range(4)) * 5] * 10), Choice(10, 4))
        self.assertEqual(Seats(10, ((9,),)).full, 1)

    def test_lists_are_copied(self):
        fits = [[0], [1]]
        family = Seats(2, fits)
        fits[0].append(1)
        fits.append([0])
        self.exact((family.fits, family.things), (((0,), (1,)), 2))

    def test_refusals(self):
        self.refused(NumberError, (11,), Seats, 11, [[99]] * 11)
        self.refused(NumberError, (-1,), Seats, -1, [])
        self.refused(SizeError, (11,), Seats, 2, [[99]] * 11)
        self.refused(SizeError, (21,), Seats, 2, [[1], [99] * 21])
        self.refused(NumberError, (10,), Seats, 2, [[5], [10], [0] * 21])
        self.refused(NumberError, (-1,), Seats, 2, [[5, -1]])
        self.refused(NumberError, (3,), Seats, 2, [[1, 3], [4]])
        self.refused(NumberError, (5,), Seats, 2, [[1, 5, 3], [4]])
        self.refused(NumberError, (0,), Seats, 0, [[0]])
        Seats(10, [[9] * 20] * 10)
