"""Points 3 to 6, 9 and 29 and the section nodearer/shares/rotas.py."""

from itertools import product
from random import Random

from nodearer.errors import NumberError, ShareError, SizeError
from nodearer.exact.ratios import Ratio
from nodearer.families.counts import Choice, Groups
from nodearer.families.rooms import Rooms
from nodearer.shares.rotas import judge_rota, rota
from tests.plans import FAMILIES, SQUARE, PlanCase, barrier_by, ranks_of


def counts_of(things, lots):
    return tuple(sum(thing in lot for lot in lots) for thing in range(things))


def plain_by(bases, counts, days, known):
    """The plain rota by trying all bases; None if there is no rota."""
    if days == 0:
        return None if any(counts) else []
    if (counts, days) not in known:
        known[counts, days] = None
        for base in bases:
            left = tuple(count - (thing in base) for thing, count in enumerate(counts))
            more = plain_by(bases, left, days - 1, known) if min(left, default=0) >= 0 else None
            if more is not None:
                known[counts, days] = [base] + more
                break
    return known[counts, days]


class RotaTest(PlanCase):
    def check(self, family, ranks, counts, days, known):
        wanted = plain_by(list(family.bases()), counts, days, known)
        if wanted is None:
            self.refused(ShareError, (barrier_by(ranks, counts, days),), rota, family, list(counts), days)
            return False
        self.assertIsNone(barrier_by(ranks, counts, days))
        told = self.asked(rota, family, list(counts), days)
        self.exact(told, wanted)
        self.assertIs(judge_rota(family, counts, days, told), True)
        return True

    def test_definition(self):
        random = Random(44)
        for family in FAMILIES:
            ranks, known, bases, seen = ranks_of(family), {}, list(family.bases()), set()
            for _ in range(12):
                days = random.randint(0, 4)
                counts = counts_of(family.things, [random.choice(bases) for _ in range(days)])
                self.check(family, ranks, counts, days, known)
                counts = tuple(min(days, max(0, count + random.choice([-1, 0, 0, 1]))) for count in counts)
                seen.add(self.check(family, ranks, counts, days, known))
            if 4 < family.things < 7:
                self.assertIn(False, seen)

    def test_all_counts(self):
        for family in (Choice(3, 1), Choice(3, 2), Groups([0, 1, 0], [1, 1]), Rooms(3, [([0, 1], 1)])):
            ranks, known = ranks_of(family), {}
            for days in range(4):
                for counts in product(range(days + 1), repeat=3):
                    self.check(family, ranks, counts, days, known)

    def test_told(self):
        self.exact(rota(Choice(3, 2), [2, 1, 1], 2), [(0, 1), (0, 2)])
        self.exact(rota(Choice(3, 2), (2, 2, 2), 3), [(0, 1), (0, 2), (1, 2)])
        self.exact(rota(Groups([0, 0, 1, 1], [1, 1]), [1, 1, 0, 2], 2), [(0, 3), (1, 3)])
        # With (0, 1) on the first day thing 2 could not be there twice.
        self.exact(rota(Choice(3, 2), [1, 1, 2], 2), [(0, 2), (1, 2)])
        self.refused(ShareError, ((0, 1),), rota, Rooms(4, [([0, 1], 1)]), [2, 1, 2, 1], 2)
        self.refused(ShareError, ((0, 1, 2),), rota, Choice(3, 2), [1, 1, 1], 2)
        self.refused(ShareError, ((0, 1, 2),), rota, Choice(3, 2), [2, 2, 1], 2)

    def test_edges(self):
        self.exact(rota(Choice(0, 0), [], 0), [])
        self.exact(rota(Choice(0, 0), [], 12), [()] * 12)
        self.exact(rota(Choice(4, 2), [0] * 4, 0), [])
        self.exact(rota(Choice(3, 3), [12] * 3, 12), [(0, 1, 2)] * 12)
        self.exact(rota(Choice(10, 0), [0] * 10, 12), [()] * 12)
        told = rota(Choice(10, 5), [6] * 10, 12)
        self.exact((told[0], len(told), counts_of(10, told)), ((0, 1, 2, 3, 4), 12, (6,) * 10))
        told = rota(Choice(10, 5), [12, 0, 12, 3, 9, 1, 11, 2, 6, 4], 12)
        self.exact((len(told), counts_of(10, told)), (12, (12, 0, 12, 3, 9, 1, 11, 2, 6, 4)))

    def test_refusals(self):
        for call in (rota, lambda family, counts, days: judge_rota(family, counts, days, None)):
            self.refused(SizeError, (2,), call, Choice(3, 2), [13, -1], 99)
            self.refused(SizeError, (4,), call, Choice(3, 2), [1] * 4, 2)
            self.refused(NumberError, (13,), call, Choice(3, 2), [3, 13, -1], 99)
            self.refused(NumberError, (-1,), call, Choice(3, 2), (1, -1, 13), -7)
            self.refused(NumberError, (13,), call, Choice(3, 2), [1, 1, 1], 13)
            self.refused(NumberError, (-1,), call, Choice(3, 2), [0, 0, 0], -1)
            self.refused(NumberError, (5,), call, Choice(3, 2), [2, 5, 7], 4)
            self.refused(NumberError, (1,), call, Choice(3, 2), [0, 1, 0], 0)
        self.refused(ShareError, ((0, 1, 2),), rota, Choice(3, 2), [1, 0, 0], 3)

    def test_new_lists(self):
        rota(Choice(2, 1), [1, 1], 2).clear()
        self.exact(rota(Choice(2, 1), [1, 1], 2), [(0,), (1,)])


class JudgeTest(PlanCase):
    FAMILY, COUNTS = Groups([0, 0, 1, 1], [1, 1]), [1, 2, 2, 1]

    def judge(self, lots, wanted):
        self.assertIs(self.asked(judge_rota, self.FAMILY, self.COUNTS, 3, lots), wanted)
        self.assertIs(judge_rota(self.FAMILY, tuple(self.COUNTS), 3, lots), wanted)

    def test_judged(self):
        self.judge([(0, 2), (1, 2), (1, 3)], True)
        self.judge([(1, 3), (1, 2), (0, 2)], True)
        self.judge(([2, 1, 2], (1, 2), [3, 0, 0, 3, 0]), True)
        self.judge([(0, 2), (1, 2), [1, 3] * 30], True)
        self.judge([(0, 2), (1, 2), [1, 3] * 30 + [1]], False)
        self.judge([(0, 2), (1, 2), (1, 2)], False)
        self.judge([(0, 2), (1, 2)], False)
        self.judge([(0, 2), (1, 2), (1, 3), ()], False)
        self.judge([(0, 1), (1, 2), (2, 3)], False)
        self.judge([(0, 2, 1, 3), (1, 2), ()], False)
        self.judge([(1, 2), (1, 2), (0, 3, 3)], True)

    def test_other_forms(self):
        good = [(0, 2), (1, 2)]
        for lots in (None, True, 3, "012", Ratio(3), (), [], good + [None], good + [3], good + ["13"], good + [[1, 4]],
                     good + [[1, -1]], good + [[True, 3]], good + [[1, None]], good + [[1, Ratio(3)]],
                     good + [[[1], 3]], good + [["1", "3"]], good + [True], [None] * 3, [[]] * 3, [0, 1, 2]):
            self.judge(lots, False)

    def test_no_rota(self):
        self.assertIs(judge_rota(Choice(3, 2), [1, 1, 1], 2, [(0, 1), (1, 2)]), False)
        self.assertIs(judge_rota(Choice(3, 2), [0, 0, 0], 0, []), True)
        self.assertIs(judge_rota(Choice(3, 2), [0, 0, 0], 0, ()), True)
        self.assertIs(judge_rota(Choice(3, 2), [0, 0, 0], 0, [()]), False)
        self.assertIs(judge_rota(Choice(0, 0), [], 2, [(), []]), True)
        self.assertIs(judge_rota(Choice(0, 0), [], 2, [()]), False)

    def test_chance(self):
        random = Random(45)
        seen = set()
        for _ in range(2000):
            lots = [tuple(random.randrange(4) for _ in range(random.choice([2, 2, 2, 3]))) for _ in range(3)]
            wanted = counts_of(4, lots) == tuple(self.COUNTS) and all(self.FAMILY.is_base(lot) for lot in lots)
            seen.add(wanted)
            self.judge(lots, wanted)
        self.assertEqual(seen, {True, False})
        self.assertIs(judge_rota(SQUARE, [1, 1, 1, 0, 0], 1, [(0, 1, 2)]), True)
        self.assertIs(judge_rota(SQUARE, [1, 1, 0, 0, 1], 1, [(0, 1, 4)]), False)
