"""Points 3 to 5, 9 and 49 and the section nodearer/draws/calendars.py."""

from fractions import Fraction
from math import ceil, floor
from random import Random

from nodearer.draws.calendars import Calendar
from nodearer.errors import NumberError, ThingError
from nodearer.prices.settle import settle
from nodearer.shares.mixtures import Mixture
from nodearer.wishes.books import Book
from tests.plans import FAMILIES, HALF, PlanCase, R, borne, frac, ratio_for, some_book, whole_of

THREE = Mixture(3, [(R(1, 2), [2]), (R(1, 3), [0, 1]), (R(1, 6), [])])


def order_by(mixture, period):
    """The lots of the days by the rule of point 49, day by day."""
    coming = {}
    for weight, lot in mixture.pairs:
        many = int(frac(weight) * period)
        coming[lot] = [(floor(Fraction((j - 1) * period, many)), ceil(Fraction(j * period, many)) - 1)
                       for j in range(1, many + 1)]
    order = []
    for day in range(period):
        latest = [(days[0][1], len(lot), lot) for lot, days in coming.items() if days and days[0][0] <= day]
        lot = min(latest)[2]
        earliest, last = coming[lot].pop(0)
        assert earliest <= day <= last
        order.append(lot)
    assert not any(coming.values())
    return tuple(order)


def some_mixture(random, things, period, most=12):
    """A mixture with parts of a period."""
    many = random.randint(1, min(period, most, 2 ** things))
    cuts = sorted(random.sample(range(1, period), many - 1))
    parts = [high - low for low, high in zip([0] + cuts, cuts + [period])]
    lots = set()
    while len(lots) < many:
        lots.add(tuple(thing for thing in range(things) if random.random() < 0.5))
    return Mixture(things, [(R(part, period), lot) for part, lot in zip(parts, sorted(lots))])


class CalendarTest(PlanCase):
    def check(self, mixture):
        period = whole_of([weight for weight, _ in mixture.pairs])
        calendar = self.asked(Calendar, mixture)
        self.assertEqual(calendar.mixture, mixture)
        self.exact((calendar.days, calendar.order, len(calendar)), (period, order_by(mixture, period), period))
        self.exact(list(calendar), list(calendar.order))
        lots = [lot for _, lot in mixture.pairs]
        for days in sorted({*range(0, period + 1, 1 + len(lots) * period // 4000), period}):
            counts = [(lot, calendar.order[:days].count(lot)) for lot in lots]
            self.exact(self.asked(calendar.counts, days), counts)
            for (weight, _), (_, count) in zip(mixture.pairs, counts):
                self.assertLess(abs(count - frac(weight) * days), 1)
        for thing in range(mixture.things):
            wanted = [day for day, lot in enumerate(calendar.order) if thing in lot]
            self.exact(self.asked(calendar.of_thing, thing), wanted)
            self.assertEqual(ratio_for(Fraction(len(wanted), period)), mixture.shares[thing])
        for number in (0, period - 1, period, 3 * period + period // 2, 10 ** 60):
            self.exact(self.asked(calendar.day, number), calendar.order[number % period])

    def test_definition(self):
        random = Random(102)
        for period in list(range(1, 30)) + [60, 97, 120, 210, 360]:
            for _ in range(3):
                self.check(some_mixture(random, random.choice([1, 2, 4, 10]), period))

    def test_the_greatest_period(self):
        random = Random(103)
        self.check(Mixture(2, [(R(1, 400), [0]), (R(399, 400), [1])]))
        self.check(Mixture(2, [(R(133, 400), [0]), (R(134, 400), [1]), (R(133, 400), [0, 1])]))
        lots = [tuple(thing for thing in range(9) if (mark >> thing) & 1) for mark in range(400)]
        self.check(Mixture(9, [(R(1, 400), lot) for lot in lots]))
        self.check(some_mixture(random, 10, 399, 60))
        self.refused(NumberError, (401,), Calendar, Mixture(1, [(R(1, 401), []), (R(400, 401), [0])]))
        far = Mixture(1, [(R(1, 10 ** 40), []), (R(1) - R(1, 10 ** 40), [0])])
        self.refused(NumberError, (10 ** 40,), Calendar, far)

    def test_told(self):
        calendar = Calendar(THREE)
        self.exact(calendar.order, ((2,), (0, 1), (2,), (), (2,), (0, 1)))
        self.exact(calendar.counts(4), [((), 1), ((2,), 2), ((0, 1), 1)])
        self.exact((calendar.of_thing(0), calendar.of_thing(2)), ([1, 5], [0, 2, 4]))
        self.exact((calendar.day(7), calendar.day(10 ** 60)), ((0, 1), (2,)))
        even = Calendar(Mixture(2, [(HALF, [1]), (HALF, [0])]))
        self.exact(even.order, ((0,), (1,)))
        single = Calendar(Mixture(0, [(R(1), [])]))
        self.exact((single.days, single.order, single.counts(0), single.counts(1)), (1, ((),), [((), 0)], [((), 1)]))

    def test_of_settlements(self):
        random = Random(104)
        for family in FAMILIES:
            book = some_book(random, family, borne(random, family, 3))
            answer = settle(book, [random.randint(-3, 3) for _ in range(family.things)])
            for mixture in (answer.mixture, answer.near):
                if whole_of([weight for weight, _ in mixture.pairs]) <= 400:
                    self.check(mixture)
        self.check(settle(Book(FAMILIES[1], []), [0] * 4).mixture)

    def test_lists_are_new(self):
        calendar = Calendar(THREE)
        for told in (calendar.counts(6), calendar.of_thing(2), list(calendar)):
            told.clear()
        self.exact((len(calendar.counts(6)), calendar.of_thing(2), len(list(calendar))), (3, [0, 2, 4], 6))
        self.assertEqual([lot for lot in calendar], [lot for lot in calendar])

    def test_refusals(self):
        calendar = Calendar(THREE)
        for number in (-1, 10 ** 60 + 1):
            self.refused(NumberError, (number,), calendar.day, number)
        for days in (-1, 7, 400):
            self.refused(NumberError, (days,), calendar.counts, days)
        for thing in (-1, 3, 10 ** 20):
            self.refused(ThingError, (thing,), calendar.of_thing, thing)
