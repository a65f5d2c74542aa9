"""Points 3 to 5, 25 and 26 and the section nodearer/shares/blocks.py."""

from random import Random

from nodearer.errors import ShareError
from nodearer.families.counts import Choice, Groups
from nodearer.families.rooms import Rooms
from nodearer.shares.blocks import blocks, chain, tight_lots
from nodearer.shares.sums import shares_of
from tests.helpers import subsets
from tests.plans import FAMILIES, HALF, SQUARE, PlanCase, R, blocks_by, borne, ranks_of, ratios_for, tight_by, total


class BlocksTest(PlanCase):
    def check(self, family, ranks, shares):
        told = ratios_for(shares)
        tight = tight_by(ranks, shares)
        self.exact(self.asked(tight_lots, family, told), tight)
        wanted, parts = blocks_by(ranks, shares)
        self.exact(self.asked(chain, family, tuple(told)), wanted)
        self.exact(self.asked(blocks, family, told), parts)
        for block in parts:
            self.assertEqual(total(shares, block).denominator, 1)
            self.assertTrue(all(set(block) <= set(lot) or not set(block) & set(lot) for lot in tight))

    def test_definition(self):
        random = Random(37)
        for family in FAMILIES:
            ranks = ranks_of(family)
            for _ in range(12):
                self.check(family, ranks, borne(random, family, random.choice([1, 2, 12])))
            for base in family.bases():
                self.check(family, ranks, [1 if thing in base else 0 for thing in range(family.things)])

    def test_told(self):
        family = Groups([0, 1, 0, 1], [1, 1])
        shares = [R(1, 3), R(1), R(2, 3), R(0)]
        self.exact(tight_lots(family, shares), [(), (1,), (0, 2), (1, 3), (0, 1, 2), (0, 1, 2, 3)])
        # After (1,) the lot (0, 2) comes first, but it does not contain the lot before.
        self.exact(chain(family, shares), [(), (1,), (1, 3), (0, 1, 2, 3)])
        self.exact(blocks(family, shares), [(1,), (3,), (0, 2)])
        rooms = Rooms(3, [([1, 2], 1)])
        self.exact(chain(rooms, (R(1), HALF, HALF)), [(), (0,), (0, 1, 2)])

    def test_edges(self):
        for call, wanted in ((tight_lots, [()]), (chain, [()]), (blocks, [])):
            self.exact(call(Choice(0, 0), []), wanted)
        self.exact(blocks(Choice(10, 5), [HALF] * 10), [tuple(range(10))])
        self.exact(blocks(Choice(10, 0), [R(0)] * 10), [(thing,) for thing in range(10)])
        self.exact(tight_lots(Choice(10, 10), [R(1)] * 10), subsets(10))
        far = 10 ** 20
        self.exact(tight_lots(Choice(2, 1), [R(1, far), R(far - 1, far)]), [(), (0, 1)])

    def test_new_lists(self):
        for call in (tight_lots, chain, blocks):
            shares = shares_of(4, [0, 1])
            first = call(Choice(4, 2), shares)
            again = call(Choice(4, 2), shares)
            first.clear()
            self.exact(call(Choice(4, 2), shares), again)

    def test_refusals(self):
        for call in (tight_lots, chain, blocks):
            self.borne_shares_are_needed(lambda shares: call(SQUARE, shares), 5)
            self.refused(ShareError, ((0, 1, 4),), call, SQUARE, [R(1), R(1), R(0), R(0), R(1)])
            self.refused(ShareError, ((0, 1),), call, Choice(2, 1), [R(10 ** 20 - 1, 10 ** 20), R(0)])
