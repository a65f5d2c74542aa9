"""Points 3 to 5, 9, 10, 41 and 42 and the section nodearer/prices/charges.py."""

from random import Random

from nodearer.errors import NumberError, SizeError, ThingError, WeightError
from nodearer.exact.ratios import MOST
from nodearer.families.counts import Choice, Groups
from nodearer.prices.charges import charge_of, floor_of, lowest, prices_fit
from nodearer.wishes.books import Book
from nodearer.wishes.wishes import Wish
from tests.helpers import subsets
from tests.plans import (FAMILIES, KINDS, PlanCase, R, borne, charge_by, floor_by, keepers_by, ratio_for, ratios_for,
                         some_book, some_prices, unfit_by)

PAIRS = Groups([0, 0, 1, 1], [1, 1])
BOOK = Book(PAIRS, [Wish([1, 0, 1, 0], most=0), Wish([1, 1, 0, 0], least=2), Wish([0, 1, 1, 1], most=2, least=1)])


class ChargesTest(PlanCase):
    def test_definition(self):
        random = Random(75)
        for kind in KINDS:
            seen = set()
            for family in FAMILIES:
                for _ in range(5):
                    book = some_book(random, family, borne(random, family), kind)
                    prices = some_prices(random, book)
                    self.check(random, book, prices)
                    other = some_prices(random, book, False)
                    at = unfit_by(book, other)
                    self.assertIs(self.asked(prices_fit, book, ratios_for(other)), at is None)
                    seen.add(at is None)
                    if at is not None:
                        self.refuse(book, ratios_for(other), at)
            self.assertEqual(seen, {True, False})

    def check(self, random, book, prices):
        told, things = ratios_for(prices), book.family.things
        self.assertIs(self.asked(prices_fit, book, told), True)
        for lot in subsets(things)[::5]:
            wanted = ratio_for(charge_by(book, prices, lot))
            self.exact(self.asked(charge_of, book, told, list(lot)[::-1] * 2), wanted)
        for lot in keepers_by(book):
            self.assertLessEqual(charge_of(book, tuple(told), lot).num, 0)
        bound = random.choice([0, 2, 10 ** 6])
        costs = [random.randint(-bound, bound) for _ in range(things)]
        floor = floor_by(book, costs, prices)
        self.exact(self.asked(floor_of, book, costs, told), ratio_for(floor))
        first = [base for base in book.family.bases()
                 if sum(costs[thing] for thing in base) + charge_by(book, prices, base) == floor][0]
        self.exact(self.asked(lowest, book, tuple(costs), tuple(told)), first)

    def refuse(self, book, prices, at):
        zeros = [0] * book.family.things
        self.refused(WeightError, (at,), charge_of, book, prices, [])
        self.refused(WeightError, (at,), floor_of, book, zeros, prices)
        self.refused(WeightError, (at,), lowest, book, zeros, prices)

    def test_told(self):
        prices = [R(1, 2), R(-3), R(0)]
        self.exact(charge_of(BOOK, prices, [0, 2]), R(4))
        self.exact(charge_of(BOOK, prices, []), R(6))
        self.exact(charge_of(BOOK, [R(0), R(0), R(5)], [1, 2, 3, 3]), R(5))
        self.exact(charge_of(BOOK, [R(0), R(0), R(-5)], [1, 2, 3]), R(-10))
        self.exact(floor_of(BOOK, [0] * 4, prices), R(3))
        self.exact(floor_of(BOOK, [0, 7, 0, 7], prices), R(4))
        self.exact(lowest(BOOK, (0, 7, 0, 7), prices), (0, 2))
        self.exact(lowest(BOOK, [0] * 4, [R(0)] * 3), (0, 2))
        self.exact(lowest(BOOK, [1, 0, 1, 0], (R(0),) * 3), (1, 3))
        self.assertIs(prices_fit(BOOK, [R(1), R(-1), R(-1)]), True)
        self.assertIs(prices_fit(BOOK, (R(0), R(0), R(1))), True)
        self.assertIs(prices_fit(BOOK, [R(-1, MOST), R(0), R(0)]), False)
        self.assertIs(prices_fit(BOOK, [R(0), R(1, MOST), R(0)]), False)

    def test_no_wishes_and_no_things(self):
        book = Book(Choice(3, 1), [])
        self.exact((prices_fit(book, []), charge_of(book, (), [0]), floor_of(book, [5, 4, 4], []),
                    lowest(book, [5, 4, 4], [])), (True, R(0), R(4), (1,)))
        book = Book(Choice(0, 0), [Wish([], most=-2)])
        self.exact((charge_of(book, [R(1, 3)], []), floor_of(book, [], [R(1, 3)]), lowest(book, [], [R(1)])),
                   (R(2, 3), R(2, 3), ()))

    def test_refusals(self):
        good = [R(1), R(-1), R(0)]
        bad = [R(1), R(1), R(0)]
        for prices in ([], [R(-1)] * 2, [R(-1)] * 4):
            self.refused(SizeError, (len(prices),), prices_fit, BOOK, prices)
            self.refused(SizeError, (len(prices),), charge_of, BOOK, prices, [9])
            self.refused(SizeError, (len(prices),), floor_of, BOOK, [0] * 4, prices)
            self.refused(SizeError, (len(prices),), lowest, BOOK, [0] * 4, prices)
        for prices in (good, bad):
            self.refused(ThingError, (4,), charge_of, BOOK, prices, [0, 4, -1])
            self.refused(SizeError, (61,), charge_of, BOOK, prices, [9] * 61)
        self.refused(WeightError, (1,), charge_of, BOOK, bad, [0])
        self.refused(WeightError, (0,), charge_of, BOOK, [R(-1), R(1), R(0)], [0])
        for call in (floor_of, lowest):
            for prices in (good, bad, []):
                self.refused(SizeError, (3,), call, BOOK, [10 ** 7] * 3, prices)
                self.refused(SizeError, (5,), call, BOOK, [0] * 5, prices)
                self.refused(NumberError, (10 ** 6 + 1,), call, BOOK, [0, 10 ** 6 + 1, -10 ** 7, 0], prices)
                self.refused(NumberError, (-10 ** 6 - 1,), call, BOOK, [0, 0, 0, -10 ** 6 - 1], prices)
            self.refused(WeightError, (1,), call, BOOK, [0] * 4, bad)

    def test_results_in_bounds(self):
        """Prices and their sums may be far beyond the bounds of a ratio, the results may not."""
        wishes = [Wish([1, 1], most=0), Wish([1, 1], least=2), Wish([1, 1], most=2)]
        book, costs = Book(Choice(2, 1), wishes), [0, 0]
        for call in (lambda prices: charge_of(book, prices, [1]), lambda prices: floor_of(book, costs, prices)):
            self.exact(call([R(MOST), R(0), R(0)]), R(MOST))
            self.exact(call([R(0), R(0), R(MOST)]), R(-MOST))
            self.exact(call([R(1, MOST), R(0), R(0)]), R(1, MOST))
            self.exact(call([R(MOST), R(-MOST), R(MOST)]), R(MOST))
            self.refused(NumberError, (2 * MOST,), call, [R(MOST), R(-MOST), R(0)])
            self.refused(NumberError, (MOST + 1,), call, [R(MOST), R(-1), R(0)])
            # The sum is -1 over a denominator that is too great, or both numbers are too great.
            self.refused(NumberError, (MOST * (MOST - 1),), call, [R(1, MOST), R(0), R(1, MOST - 1)])
            self.refused(NumberError, (2 * MOST - 1,), call, [R(1, MOST), R(-1, MOST - 1), R(0)])
        self.exact(lowest(book, [1, 0], [R(MOST), R(-MOST), R(0)]), (1,))
        self.exact(lowest(book, costs, [R(1, MOST), R(-1, MOST - 1), R(0)]), (0,))
        far = [R(MOST), R(-MOST, MOST - 1), R(1, MOST - 2)]
        self.assertIs(prices_fit(book, far), True)
