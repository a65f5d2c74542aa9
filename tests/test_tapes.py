"""Points 3 to 5 and 48 and the section nodearer/draws/tapes.py."""

from fractions import Fraction
from random import Random

from nodearer.draws.tapes import drawn, period_of
from nodearer.errors import NumberError
from nodearer.families.counts import Choice
from nodearer.shares.mixtures import Mixture
from tests.plans import FAMILIES, HALF, PlanCase, R, frac, mixed, ratio_for, whole_of

THREE = Mixture(3, [(R(1, 2), [2]), (R(1, 3), [0, 1]), (R(1, 6), [])])


def weighed(mixture):
    return [weight for weight, _ in mixture.pairs]


class TapesTest(PlanCase):
    def test_told(self):
        self.exact(period_of(THREE), 6)
        self.exact([drawn(THREE, number) for number in range(8)],
                   [(), (2,), (2,), (2,), (0, 1), (0, 1), (), (2,)])
        self.exact(drawn(THREE, 10 ** 60), (0, 1))
        self.exact(10 ** 60 % 6, 4)
        self.exact((period_of(Mixture(0, [(R(1), [])])), drawn(Mixture(0, [(R(1), [])]), 10 ** 60 - 7)), (1, ()))
        self.exact(period_of(Mixture(2, [(HALF, [0]), (HALF, [0])])), 1)

    def test_definition(self):
        random = Random(101)
        for family in FAMILIES:
            bases = list(family.bases())
            for _ in range(6):
                table = mixed(random, bases)
                mixture = Mixture(family.things, [(ratio_for(weight), lot) for lot, weight in table.items()])
                period = self.asked(period_of, mixture)
                self.exact(period, whole_of(weighed(mixture)))
                row = [lot for weight, lot in mixture for _ in range(int(frac(weight) * period))]
                self.assertEqual(len(row), period)
                for number in random.sample(range(10 ** 9), 30) + list(range(min(period, 40))):
                    self.exact(self.asked(drawn, mixture, number), row[number % period])

    def test_each_lot_as_often_as_its_weight_says(self):
        start = 10 ** 59 + 5
        for number in range(12):
            lots = [drawn(THREE, start + number + more) for more in range(6)]
            self.assertEqual([lots.count(lot) for lot in ((), (2,), (0, 1))], [1, 3, 2])

    def test_great_periods(self):
        far = 10 ** 40
        mixture = Mixture(2, [(R(far - 3, far), [0]), (R(1, far), []), (R(2, far), [0, 1])])
        self.exact(period_of(mixture), far)
        for number, lot in ((0, ()), (1, (0,)), (far - 3, (0,)), (far - 2, (0, 1)), (far - 1, (0, 1)), (far, ()),
                            (10 ** 60, ()), (10 ** 60 - 1, (0, 1)), (10 ** 60 - 3, (0,)), (5 * far + 1, (0,))):
            self.exact(drawn(mixture, number), lot)

    def test_periods_beyond_those_of_the_class(self):
        """A mixture that is trimmed may have a longer period than one that is made by its class."""
        random = Random(127)
        far, bases, seen = 10 ** 40, list(Choice(10, 5).bases()), 0
        for _ in range(4):
            cuts = sorted(random.randrange(1, far) for _ in range(39))
            parts = [high - low for low, high in zip([0] + cuts, cuts + [far])]
            mixture = Mixture(10, [(R(part, far), lot) for part, lot in zip(parts, random.sample(bases, 40))]).trimmed()
            period = self.asked(period_of, mixture)
            self.exact(period, whole_of(weighed(mixture)))
            seen = max(seen, period)
            ends, ahead = [], Fraction(0)
            for weight, lot in mixture:
                ahead += frac(weight) * period
                ends.append((ahead, lot))
            for number in [random.randrange(10 ** 60) for _ in range(20)] + [period - 1, period, 10 ** 60]:
                wanted = next(lot for end, lot in ends if number % period < end)
                self.exact(self.asked(drawn, mixture, number), wanted)
        self.assertTrue(far < seen <= 10 ** 50)

    def test_refusals(self):
        for number in (-1, 10 ** 60 + 1, -10 ** 60):
            self.refused(NumberError, (number,), drawn, THREE, number)
