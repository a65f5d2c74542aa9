"""Points 3 to 5, 25 and 28 and the section nodearer/shares/reach.py."""

from fractions import Fraction
from itertools import product
from random import Random

from nodearer.errors import NumberError, ShareError, SizeError
from nodearer.families.counts import Choice, Groups
from nodearer.shares.reach import is_corner, reach
from nodearer.shares.sums import shares_of
from tests.plans import FAMILIES, HALF, SQUARE, PlanCase, R, barrier_by, borne, frac, ranks_of, ratios_for

CLOSE = Fraction(1, 10 ** 80)


def moved(shares, direction, step):
    return [share + step * entry for share, entry in zip(shares, direction)]


class ReachTest(PlanCase):
    def check(self, family, ranks, shares, direction):
        told = self.asked(reach, family, ratios_for(shares), direction)
        if not any(direction):
            self.assertIsNone(told)
            return None
        self.exact(told.__class__, R)
        step = frac(told)
        self.assertGreaterEqual(step, 0)
        self.assertIsNone(barrier_by(ranks, moved(shares, direction, step)))
        self.assertIsNotNone(barrier_by(ranks, moved(shares, direction, step + CLOSE)))
        return step

    def test_definition(self):
        random = Random(42)
        for family in FAMILIES:
            ranks, seen = ranks_of(family), set()
            for _ in range(40):
                one, two = borne(random, family), borne(random, family)
                bound = random.choice([1, 3, 10 ** 6])
                direction = [random.randint(-bound, bound) for _ in one]
                if random.random() < 0.8:
                    # Towards other borne shares the reach is positive.
                    direction = [int((mine - other) * 27720 * 60) for mine, other in zip(two, one)]
                    direction = [max(-10 ** 6, min(10 ** 6, entry)) for entry in direction]
                seen.add(bool(self.check(family, ranks, one, direction)))
            if len(list(family.bases())) > 3:
                self.assertEqual(seen, {True, False})

    def test_told(self):
        family = Groups([0, 0, 1, 1], [1, 1])
        shares = [R(1, 4), R(3, 4), HALF, HALF]
        self.exact(reach(family, shares, [1, -1, 0, 0]), R(3, 4))
        self.exact(reach(family, shares, [-1, 1, 0, 0]), R(1, 4))
        self.exact(reach(family, tuple(shares), (-1, 1, 2, -2)), R(1, 4))
        self.exact(reach(family, shares, [1, 0, 0, -1]), R(0))
        self.exact(reach(family, shares, [1, 0, 0, 0]), R(0))
        self.exact(reach(family, shares, [-1, 0, 0, 0]), R(0))
        self.exact(reach(family, shares, [0, 0, 0, 0]), None)
        self.exact(reach(Choice(0, 0), [], []), None)
        far = 10 ** 6
        self.exact(reach(Choice(2, 1), [HALF, HALF], [far, -far]), R(1, 2 * far))
        self.exact(reach(Choice(2, 1), [R(1, 10 ** 20), R(10 ** 20 - 1, 10 ** 20)], [-far, far]), R(1, 10 ** 26))
        self.exact(reach(Choice(10, 5), [HALF] * 10, [far, -far] * 5), R(1, 2 * far))
        self.exact(reach(Choice(3, 2), shares_of(3, [0, 1]), [-1, 0, 1]), R(1))
        self.exact(reach(Choice(3, 2), shares_of(3, [0, 1]), [1, 0, -1]), R(0))

    def test_refusals(self):
        self.borne_shares_are_needed(lambda shares: reach(SQUARE, shares, [0] * 5), 5)
        self.shares_are_looked_at(lambda shares: reach(SQUARE, shares, [10 ** 7]), 5)
        shares = [R(0)] * 5
        self.refused(SizeError, (4,), reach, SQUARE, shares, [10 ** 7] * 4)
        self.refused(SizeError, (6,), reach, SQUARE, shares, [0] * 6)
        self.refused(NumberError, (10 ** 6 + 1,), reach, SQUARE, shares, [0, 10 ** 6 + 1, -10 ** 7, 0, 0])
        self.refused(NumberError, (-10 ** 6 - 1,), reach, SQUARE, shares, [10 ** 6, 0, -10 ** 6 - 1, 0, 0])
        self.refused(ShareError, ((0, 1, 4),), reach, SQUARE, shares_of(5, [0, 1, 4]), [0] * 5)


class CornerTest(PlanCase):
    def is_corner_by(self, family, ranks, shares):
        """By the definition, for the directions whose entries are -1, 0 and 1."""
        for direction in product([-1, 0, 1], repeat=family.things):
            ways = [direction, [-entry for entry in direction]]
            if any(direction) and not any(barrier_by(ranks, moved(shares, way, Fraction(1, 10 ** 9))) for way in ways):
                return False
        return True

    def test_definition(self):
        random = Random(43)
        for family in FAMILIES:
            if family.things > 5:
                continue
            ranks = ranks_of(family)
            for shares in [borne(random, family, 3) for _ in range(4)] + [[frac(share) for share in shares_of(
                    family.things, next(family.bases()))]]:
                wanted = self.is_corner_by(family, ranks, shares)
                self.assertIs(self.asked(is_corner, family, ratios_for(shares)), wanted)
                self.assertIs(wanted, set(shares) <= {0, 1})

    def test_edges(self):
        self.assertIs(is_corner(Choice(0, 0), []), True)
        self.assertIs(is_corner(Choice(10, 0), (R(0),) * 10), True)
        self.assertIs(is_corner(Choice(10, 10), [R(1)] * 10), True)
        self.assertIs(is_corner(Choice(10, 5), [HALF] * 10), False)
        self.assertIs(is_corner(Choice(3, 2), [R(1), R(1, 10 ** 20), R(10 ** 20 - 1, 10 ** 20)]), False)

    def test_refusals(self):
        self.borne_shares_are_needed(lambda shares: is_corner(SQUARE, shares), 5)
        self.refused(ShareError, ((0, 1, 4),), is_corner, SQUARE, shares_of(5, [0, 1, 4]))
