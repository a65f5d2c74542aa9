"""Points 3 to 5, 9, 10, 44, 50 and 55 and the section nodearer/fronts/crews.py."""

from itertools import permutations
from random import Random

from nodearer.errors import GapError, LotError, NumberError, SizeError, ThingError, WishError
from nodearer.families.seats import Seats
from nodearer.fronts.crews import Crew
from nodearer.fronts.front import Front
from nodearer.wishes.books import Book
from tests.helpers import subsets
from tests.settled import AnswerCase
from tests.test_panels import some_traits, wishes_by

FITS = [[0, 1, 0], [1], [2], [0, 2], []]


def can_sit(fits, seats, lot):
    """Whether the people of a lot, one for each seat, can be put in an order in which they fit the seats."""
    return any(all(seat in fits[person] for seat, person in enumerate(order)) for order in permutations(lot, seats))


class CrewTest(AnswerCase):
    def test_fields(self):
        fits, traits, costs = [[1, 0, 1], [0]], [([1, 0, 1], 1, None)], [3, 4]
        crew = Crew(2, fits, traits, costs=costs)
        fits[0].append(0)
        fits.append([0])
        traits.clear()
        costs[1] = 0
        self.assertIsInstance(crew, Front)
        self.exact((crew.seats, crew.fits, crew.traits), (2, ((0, 1), (0,)), (((0, 1), 1, None),)))
        self.exact((crew.costs, Crew(1, [(0,), ()], ()).costs), ((3, 4), (0, 0)))
        self.assertEqual(crew.book, Book(Seats(2, [[0, 1], [0]]), wishes_by(2, [([0, 1], 1, None)])))
        self.exact((crew.book.family.seats, crew.book.family.fits), (2, ((0, 1), (0,))))

    def test_definition(self):
        random = Random(121)
        seen = set()
        for _ in range(50):
            seats, people = random.choice([(0, 3), (1, 4), (2, 5), (3, 6), (4, 7)])
            fits = [random.sample(range(seats), random.randint(0, seats)) for _ in range(people)]
            traits = some_traits(random, people)
            costs = random.choice([None, [random.randint(-9, 9) for _ in range(people)]])
            full = Seats(seats, fits).full
            if full < seats:
                self.refused(GapError, (full,), Crew, seats, fits, traits, costs=costs)
                continue
            crew = self.asked(Crew, seats, fits, traits, costs=costs)
            self.assertEqual(crew.book, Book(Seats(seats, fits), wishes_by(people, traits)))
            self.exact(crew.costs, tuple(costs or [0] * people))
            seen.add(self.answer_is_right(crew.book, crew.costs, self.asked(crew.solve)) is None)
            self.check_seatings(crew, seats, fits)
        self.assertEqual(seen, {True, False})

    def check_seatings(self, crew, seats, fits):
        for lot in subsets(len(fits)):
            turned = list(lot)[::-1] * 2
            if len(lot) != seats or not can_sit(fits, seats, lot):
                self.refused(LotError, (lot,), crew.seating, turned)
                self.refused(LotError, (lot,), crew.words, turned)
                continue
            told = self.asked(crew.seating, turned)
            self.assertEqual(sorted(told), list(lot))
            self.assertTrue(all(seat in fits[person] for seat, person in enumerate(told)))
            words = [f"seat {seat}: person {person}" for seat, person in enumerate(told)]
            self.exact(self.asked(crew.words, turned), words)

    def test_told(self):
        crew = Crew(3, FITS, [], costs=[1, 5, 9, 2, 0])
        self.exact(crew.solve().plan, (0, 1, 3))
        self.exact(crew.seating([3, 1, 0]), [0, 1, 3])
        self.exact(crew.words((0, 1, 2)), ["seat 0: person 0", "seat 1: person 1", "seat 2: person 2"])
        self.exact(crew.words([1, 2, 3]), ["seat 0: person 3", "seat 1: person 1", "seat 2: person 2"])
        self.refused(LotError, ((0, 1),), crew.seating, [1, 0, 1])
        self.refused(LotError, ((0, 1, 4),), crew.words, [4, 1, 0])

    def test_no_seats_and_ten_seats(self):
        crew = Crew(0, [[], []], [([0], 0, 0)])
        self.exact((crew.seating([]), crew.words(()), crew.solve().plan), ([], [], ()))
        self.exact(Crew(0, [], []).solve().plan, ())
        crew = Crew(10, [[9 - seat, (3 - seat) % 10] for seat in range(10)], [(list(range(10)), 10, 10)])
        told = crew.seating(list(range(10)))
        self.assertEqual(sorted(told), list(range(10)))
        self.assertTrue(all(seat in crew.fits[person] for seat, person in enumerate(told)))
        self.assertEqual(crew.words(list(range(10)))[9], f"seat 9: person {told[9]}")
        self.exact(crew.solve().plan, tuple(range(10)))

    def test_looks(self):
        """Seats, fits, traits with their parts, costs."""
        bad = [([9], 10 ** 4, None)]
        for rest in ((FITS, []), ([[10]] * 11, bad)):
            self.refused(NumberError, (11,), Crew, 11, *rest, costs=[10 ** 7])
            self.refused(NumberError, (-1,), Crew, -1, *rest)
        for seats in (3, 1, 10):
            self.refused(SizeError, (11,), Crew, seats, [[10]] * 11, bad)
            self.refused(SizeError, (21,), Crew, seats, [[0] * 21, [10]], bad)
            self.refused(NumberError, (10,), Crew, seats, [[0, 10, -1], [0] * 21], bad)
            self.refused(NumberError, (-1,), Crew, seats, [[9], [0, -1]], bad)
            for costs in (None, [], [10 ** 7] * 5):
                self.refused(SizeError, (6,), Crew, seats, FITS, bad * 6, costs=costs)
                self.refused(ThingError, (5,), Crew, seats, FITS, [([0, 5, -1], 2000, 0)], costs=costs)
                self.refused(SizeError, (61,), Crew, seats, FITS, [([9] * 61, 2000, 0)], costs=costs)
                self.refused(NumberError, (1001,), Crew, seats, FITS, [([0], 1001, -1001)], costs=costs)
                self.refused(NumberError, (-1001,), Crew, seats, FITS, [([0], 3, -1001), ([9], 0, 0)], costs=costs)
            none = [([0], None, None)]
            self.refused(SizeError, (4,), Crew, seats, FITS, none, costs=[10 ** 7] * 4)
            self.refused(SizeError, (6,), Crew, seats, FITS, none, costs=(0,) * 6)
            self.refused(NumberError, (10 ** 6 + 1,), Crew, seats, FITS, none, costs=[0, 10 ** 6 + 1, -10 ** 7, 0, 0])

    def test_conditions(self):
        """A seat number, then the full rank, then the traits."""
        none = [([0], None, None)]
        for traits in ([], none):
            self.refused(NumberError, (2,), Crew, 2, FITS, traits)
            self.refused(NumberError, (9,), Crew, 1, [[0], [], [9, 2]], traits)
            self.refused(GapError, (3,), Crew, 4, FITS, traits)
            self.refused(GapError, (0,), Crew, 1, [[], []], traits)
            self.refused(GapError, (1,), Crew, 2, [[1], [1], [1]], traits)
        self.refused(WishError, (None,), Crew, 3, FITS, none)
        self.refused(WishError, (None,), Crew, 3, FITS, [([0], 1, None), ([], 0, 1)], costs=[1] * 5)

    def test_lots_are_looked_at(self):
        crew = Crew(3, FITS, [])
        for call in (crew.seating, crew.words):
            self.refused(ThingError, (5,), call, [0, 5, -1])
            self.refused(ThingError, (-1,), call, (-1, 5))
            self.refused(SizeError, (61,), call, [9] * 61)
