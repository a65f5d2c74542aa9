"""Points 3 to 5, 9, 10 and 25 and the section nodearer/shares/sums.py."""

from random import Random

from nodearer.errors import NumberError, SizeError, ThingError
from nodearer.families.counts import Choice, Groups
from nodearer.families.rooms import Rooms
from nodearer.shares.sums import barrier, shares_of, sum_of
from tests.helpers import subsets
from tests.plans import (FAMILIES, HALF, SQUARE, PlanCase, R, barrier_by, borne, frac, ranks_of, ratio_for,
                         ratios_for, total)


class SumTest(PlanCase):
    def test_definition(self):
        random = Random(34)
        for family in FAMILIES:
            told = [random.randint(0, 12) for _ in range(family.things)]
            shares = [R(part, 12) for part in told]
            for lot in subsets(family.things):
                wanted = ratio_for(total([frac(share) for share in shares], lot))
                self.exact(self.asked(sum_of, family, shares, list(lot)), wanted)
                self.exact(sum_of(family, tuple(shares), lot[::-1] * 2), wanted)

    def test_edges(self):
        self.exact(sum_of(Choice(0, 0), [], []), R(0))
        self.exact(sum_of(Choice(2, 1), [R(0), R(1)], [1] * 60), R(1))
        self.exact(sum_of(Choice(10, 1), [R(1)] * 10, range(10)), R(10))
        far = 10 ** 20
        self.exact(sum_of(Choice(3, 1), [R(1, far), R(1), R(3, far)], [0, 2]), R(4, far))

    def test_refusals(self):
        self.shares_are_looked_at(lambda shares: sum_of(SQUARE, shares, [9]), 5)
        self.refused(ThingError, (5,), sum_of, SQUARE, [R(1)] * 5, [0, 5, -1])
        self.refused(SizeError, (61,), sum_of, SQUARE, [R(1)] * 5, [0] * 61)


class BarrierTest(PlanCase):
    def check(self, family, ranks, shares):
        wanted = barrier_by(ranks, shares)
        self.exact(self.asked(barrier, family, ratios_for(shares)), wanted)
        return wanted

    def test_borne(self):
        random = Random(35)
        for family in FAMILIES:
            ranks = ranks_of(family)
            for base in family.bases():
                self.exact(barrier(family, shares_of(family.things, base)), None)
            for _ in range(10):
                self.assertIsNone(self.check(family, ranks, borne(random, family)))

    def test_not_borne(self):
        random = Random(36)
        for family in FAMILIES:
            ranks, seen = ranks_of(family), set()
            for _ in range(40):
                shares = borne(random, family)
                at = random.randrange(family.things) if family.things else None
                if at is not None:
                    shares[at] = random.choice([0, shares[at] / 2, (1 + shares[at]) / 2, 1])
                seen.add(self.check(family, ranks, shares))
            if family.things > 3:
                self.assertGreater(len(seen), 2)

    def test_told(self):
        rooms = Rooms(4, [([1, 2], 1), ([0, 1, 2, 3], 2)])
        self.exact(barrier(rooms, [HALF, R(3, 4), HALF, R(1, 4)]), (1, 2))
        self.exact(barrier(rooms, [R(1), R(1), R(1), R(1)]), (1, 2))
        self.exact(barrier(rooms, [R(1), HALF, R(0), R(1)]), (0, 1, 3))
        self.exact(barrier(rooms, [HALF, HALF, HALF, HALF]), None)
        self.exact(barrier(rooms, (HALF, HALF, HALF, R(2, 5))), (0, 1, 2, 3))
        self.exact(barrier(rooms, [R(1), R(1, 10), R(1), R(1)]), (1, 2))
        self.exact(barrier(Groups([0, 1], [0, 1]), [R(1, 10 ** 20), R(1)]), (0,))
        self.exact(barrier(Groups([0, 1], [0, 1]), [R(0), R(10 ** 20 - 1, 10 ** 20)]), (0, 1))
        self.exact(barrier(Choice(0, 0), []), None)
        self.exact(barrier(Choice(10, 5), [HALF] * 10), None)
        self.exact(barrier(Choice(3, 1), (HALF, HALF, HALF)), (0, 1, 2))

    def test_refusals(self):
        self.shares_are_looked_at(lambda shares: barrier(SQUARE, shares), 5)


class SharesTest(PlanCase):
    def test_definition(self):
        for things in (0, 1, 3, 10):
            for lot in subsets(things)[:300]:
                wanted = [R(1) if thing in lot else R(0) for thing in range(things)]
                self.exact(self.asked(shares_of, things, list(lot[::-1]) + list(lot)), wanted)

    def test_new_lists(self):
        shares_of(3, (1,)).clear()
        self.exact(shares_of(3, [1] * 60), [R(0), R(1), R(0)])

    def test_refusals(self):
        self.refused(NumberError, (11,), shares_of, 11, [11])
        self.refused(NumberError, (-1,), shares_of, -1, [])
        self.refused(ThingError, (3,), shares_of, 3, [0, 3, -1])
        self.refused(SizeError, (61,), shares_of, 3, [3] * 61)
