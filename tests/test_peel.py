"""Points 3 to 6, 24, 25 and 27 and the section nodearer/shares/peel.py."""

from fractions import Fraction
from random import Random

from nodearer.errors import ShareError
from nodearer.families.counts import Choice, Groups
from nodearer.families.rooms import Rooms
from nodearer.shares.mixtures import Mixture
from nodearer.shares.peel import judge_mixture, peel, peeled
from nodearer.shares.sums import barrier, shares_of
from tests.helpers import subsets
from tests.plans import (FAMILIES, HALF, SQUARE, PlanCase, R, blocks_by, borne, fine_shares, frac, is_mixture_of,
                         mixed, ranks_of, ratio_for, ratios_for, shares_by, table_of, total)

CLOSE = Fraction(1, 10 ** 80)


def base_by(family, ranks, shares):
    """The base of point 27."""
    base = []
    for block in blocks_by(ranks, shares)[1]:
        for thing in block:
            if shares[thing] > 0 and family.free(base + [thing]):
                base.append(thing)
    return tuple(sorted(base))


def leaves(ranks, shares, base, weight):
    """Whether taking the base so often leaves 1 - weight times borne shares."""
    left = [share - weight if thing in base else share for thing, share in enumerate(shares)]
    everything = list(ranks)[-1]
    return (weight <= 1 and min(left, default=0) >= 0
            and all(total(left, lot) <= (1 - weight) * rank for lot, rank in ranks.items())
            and total(left, everything) == (1 - weight) * ranks[everything])


class PeelTest(PlanCase):
    def check(self, family, ranks, shares):
        base, weight = self.asked(peel, family, ratios_for(shares))
        self.exact((base, weight), (base_by(family, ranks, shares), ratio_for(frac(weight))))
        self.assertTrue(family.is_base(base))
        self.assertGreater(frac(weight), 0)
        self.assertTrue(leaves(ranks, shares, base, frac(weight)))
        self.assertFalse(leaves(ranks, shares, base, frac(weight) + CLOSE))
        return base, frac(weight)

    def check_all(self, family, ranks, shares):
        """Peeling again and again gives the peeled mixture."""
        mixture = self.asked(peeled, family, ratios_for(shares))
        table, left, rest = {}, list(shares), Fraction(1)
        while rest:
            base, weight = self.check(family, ranks, left)
            table[base] = table.get(base, 0) + rest * weight
            left = [share - weight if thing in base else share for thing, share in enumerate(left)]
            rest *= 1 - weight
            left = [share / (1 - weight) for share in left] if rest else left
        self.assertEqual(table_of(mixture), table)
        self.assertTrue(is_mixture_of(mixture, list(family.bases()), shares))
        self.assertLessEqual(len(mixture), max(1, family.things))
        self.assertIs(judge_mixture(family, ratios_for(shares), mixture), True)

    def test_definition(self):
        random = Random(38)
        for family in FAMILIES:
            ranks = ranks_of(family)
            for _ in range(8):
                self.check_all(family, ranks, borne(random, family, random.choice([1, 3, 50])))

    def test_bases(self):
        for family in FAMILIES:
            for base in list(family.bases())[:6]:
                self.exact(peel(family, shares_of(family.things, base)), (base, R(1)))
                self.exact(peeled(family, tuple(shares_of(family.things, base))).pairs, ((R(1), base),))

    def test_told(self):
        self.exact(peel(Choice(3, 1), (HALF, R(1, 3), R(1, 6))), ((0,), HALF))
        self.exact(peeled(Choice(3, 1), [HALF, R(1, 3), R(1, 6)]).pairs,
                   ((HALF, (0,)), (R(1, 3), (1,)), (R(1, 6), (2,))))
        self.exact(peel(Choice(3, 2), [R(3, 5), R(3, 5), R(4, 5)]), ((0, 1), R(1, 5)))
        # The first block is (2,), so thing 2 comes before things 0 and 1.
        self.exact(peel(Rooms(3, [([0, 1], 1)]), [R(1, 4), R(3, 4), R(1)]), ((0, 2), R(1, 4)))
        self.exact(peel(Groups([0, 0], [1]), [R(0), R(1)]), ((1,), R(1)))

    def test_edges(self):
        self.exact(peel(Choice(0, 0), []), ((), R(1)))
        self.exact(peeled(Choice(0, 0), ()).pairs, ((R(1), ()),))
        self.exact(peel(Choice(10, 0), [R(0)] * 10), ((), R(1)))
        far = 10 ** 20
        self.exact(peel(Choice(2, 1), [R(1, far), R(far - 1, far)]), ((0,), R(1, far)))
        random = Random(39)
        for family in (Choice(10, 5), Choice(10, 3), Groups([0] * 5 + [1] * 5, [2, 3])):
            shares = fine_shares(random, family)
            mixture = peeled(family, ratios_for(shares))
            self.assertTrue(is_mixture_of(mixture, list(family.bases()), shares))
            self.assertLessEqual(len(mixture), 10)
            self.assertLessEqual(max(weight.den for weight, _ in mixture), 10 ** 50)
            self.assertTrue(is_mixture_of(mixture.trimmed(), table_of(mixture), shares))

    def test_borne_exactly_if_mixed(self):
        random = Random(40)
        for family in FAMILIES[1:]:
            for _ in range(10):
                shares = [R(random.randint(0, 4), 4) for _ in range(family.things)]
                lot = barrier(family, shares)
                if lot is None:
                    self.assertIs(judge_mixture(family, shares, peeled(family, shares)), True)
                else:
                    self.refused(ShareError, (lot,), peel, family, shares)
                    self.refused(ShareError, (lot,), peeled, family, shares)

    def test_refusals(self):
        for call in (peel, peeled):
            self.borne_shares_are_needed(lambda shares: call(SQUARE, shares), 5)
            self.refused(ShareError, ((1,),), call, Choice(2, 0), [R(0), R(1, 10 ** 20)])


class JudgeTest(PlanCase):
    FAMILY = Groups([0, 0, 1, 1], [1, 1])
    SHARES = [R(1, 4), R(3, 4), HALF, HALF]

    def judge(self, pairs, wanted, things=4):
        mixture = Mixture(things, pairs)
        self.assertIs(self.asked(judge_mixture, self.FAMILY, self.SHARES, mixture), wanted)
        self.assertIs(judge_mixture(self.FAMILY, tuple(self.SHARES), mixture), wanted)

    def test_judged(self):
        self.judge([(R(1, 4), [0, 2]), (R(1, 4), [1, 2]), (HALF, [1, 3])], True)
        self.judge([(R(1, 4), [0, 3]), (R(1, 4), [1, 3]), (HALF, [1, 2])], True)
        self.judge([(R(1, 8), [0, 3]), (R(1, 8), [0, 2]), (R(3, 8), [1, 3]), (R(3, 8), [1, 2])], True)
        self.judge([(R(1, 4), [0, 2]), (R(1, 4), [1, 3]), (HALF, [1, 3])], False)
        self.judge([(R(1), [0, 2])], False)
        self.judge([(R(1, 4), [0, 1]), (HALF, [1, 2]), (R(1, 4), [3])], False)
        self.judge([(R(1, 4), [0, 1]), (R(1, 4), [1, 2, 3]), (R(1, 4), [1, 3]), (R(1, 4), [2])], False)
        self.judge([(R(1, 4), [0, 1]), (R(1, 4), [2, 3]), (R(1, 4), [1, 3]), (R(1, 4), [1, 2])], False)

    def test_other_things(self):
        pairs = [(R(1, 4), [0, 2]), (R(1, 4), [1, 2]), (HALF, [1, 3])]
        self.judge(pairs, False, 5)
        self.judge(pairs, False, 10)
        self.judge([(R(1), [0, 2])], False, 3)
        self.judge([(R(1), [])], False, 0)
        self.assertIs(judge_mixture(Choice(0, 0), [], Mixture(0, [(R(1), [])])), True)
        self.assertIs(judge_mixture(Choice(0, 0), [], Mixture(1, [(R(1), [])])), False)
        for other in (None, True, 4, "mixture", R(1), [], [(R(1, 4), [0, 2])], (R(1), ())):
            self.assertIs(judge_mixture(self.FAMILY, self.SHARES, other), False)

    def test_shares_need_not_be_borne(self):
        mixture = Mixture(5, [(R(1), [0, 1, 4])])
        self.assertIs(judge_mixture(SQUARE, shares_of(5, [0, 1, 4]), mixture), False)
        self.assertIs(judge_mixture(SQUARE, shares_of(5, [0, 1, 2]), mixture), False)
        self.shares_are_looked_at(lambda shares: judge_mixture(SQUARE, shares, mixture), 5)

    def test_chance(self):
        random = Random(41)
        seen = set()
        for family in FAMILIES:
            bases = list(family.bases())
            for _ in range(20):
                table = mixed(random, bases)
                pairs = [(ratio_for(weight), lot) for lot, weight in table.items()]
                if random.random() < 0.5:
                    at = random.randrange(len(pairs))
                    pairs[at] = (pairs[at][0], random.choice(subsets(family.things)))
                shares = shares_by(family.things, table)
                other = {}
                for weight, lot in pairs:
                    other[lot] = other.get(lot, 0) + frac(weight)
                wanted = set(other) <= set(bases) and shares_by(family.things, other) == shares
                seen.add(wanted)
                mixture = Mixture(family.things, pairs)
                self.assertIs(judge_mixture(family, ratios_for(shares), mixture), wanted)
        self.assertEqual(seen, {True, False})
