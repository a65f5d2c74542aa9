"""Points 4, 5, 14 and 16 for told families, and first_failure."""

from itertools import combinations
from random import Random

from nodearer.errors import ExchangeError, LotError, NumberError, SizeError, ThingError
from nodearer.families.counts import Choice, Groups
from nodearer.families.exchange import first_failure
from nodearer.families.told import Told, told_copy
from nodearer.families.turned import Mirror
from nodearer.families.webs import Web
from tests.helpers import Case


def failure(lots):
    """The failure that point 14 and the entry of Told describe."""
    lots = sorted({tuple(sorted(set(lot))) for lot in lots})
    for first in lots:
        for second in lots:
            for thing in first:
                if thing not in second and not any(
                        tuple(sorted(set(first) - {thing} | {other})) in lots for other in set(second) - set(first)):
                    return first, second, thing
    return None


class ToldTest(Case):
    def test_definition(self):
        random = Random(15)
        found = 0
        for _ in range(600):
            things = random.randint(1, 6)
            every = list(combinations(range(things), random.randint(0, things)))
            if random.randrange(2) and things > 3:
                every = list(combinations(range(things), random.randint(2, things - 2)))
            lots = random.sample(every, random.randint(1, len(every)))
            lots = [list(lot) for lot in lots] + [list(reversed(lots[0]))]
            wanted = failure(lots)
            self.exact(first_failure(things, lots), wanted)
            if wanted is None:
                found += 1
                family = Told(things, lots)
                self.exact(family.lots, tuple(sorted({tuple(sorted(lot)) for lot in lots})))
                self.family_is(family, things, family.lots)
            else:
                self.refused(ExchangeError, wanted, Told, things, lots)
        self.assertGreater(found, 100)
        self.assertLess(found, 500)

    def test_lots_in_any_form(self):
        family = Told(4, ((3, 3, 1), [1, 0], [0, 1, 0], (1, 3)))
        self.exact(family.lots, ((0, 1), (1, 3)))
        self.exact((family.dead, family.sure, family.nodes), ((2,), (1,), 1))

    def test_edges(self):
        self.family_is(Told(0, [[]]), 0, [()])
        self.family_is(Told(3, [[], ()]), 3, [()])
        five = [list(lot) for lot in combinations(range(10), 5)]
        self.assertEqual(Told(10, (five + five)[:300]), Choice(10, 5))
        self.refused(ExchangeError, ((0, 1), (2, 3), 0), Told, 4, [[2, 3], [0, 1]])

    def test_wrong_numbers_of_things(self):
        for call in (Told, first_failure):
            self.refused(LotError, ((0, 1),), call, 2, [[0], [0, 1]])
            self.refused(LotError, ((0,),), call, 3, [[0, 1], [2, 1], [0, 0], []])
            self.refused(LotError, ((0, 2),), call, 3, [[1, 1], [0], [2, 0], [1, 2]])
            self.refused(LotError, ((),), call, 4, [[0, 1], [2, 3], []])

    def test_refusals(self):
        for call in (Told, first_failure):
            self.refused(NumberError, (11,), call, 11, [])
            self.refused(NumberError, (-1,), call, -1, [[]])
            self.refused(SizeError, (0,), call, 2, [])
            self.refused(SizeError, (301,), call, 2, [[9]] * 301)
            self.refused(SizeError, (61,), call, 2, [[0], [9] * 61])
            self.refused(ThingError, (2,), call, 2, [[0], [0, 1], [2]])
            self.refused(ThingError, (-1,), call, 2, [[-1, 5]])
        self.assertEqual(Told(2, [[0]] * 300).lots, ((0,),))
        self.assertIsNone(first_failure(2, [[0, 0]] * 300))

    def test_failures_told(self):
        self.exact(first_failure(4, [[3, 2], [1, 0]]), ((0, 1), (2, 3), 0))
        self.exact(first_failure(4, ([0, 1], [1, 2], [2, 3])), ((0, 1), (2, 3), 1))
        self.assertIsNone(first_failure(0, [[]]))

    def test_lists_are_copied(self):
        lots = [[0], [1]]
        family = Told(2, lots)
        lots[0][0] = 1
        lots.clear()
        self.exact(family.lots, ((0,), (1,)))
        self.assertEqual(list(family.bases()), [(0,), (1,)])

    def test_copies(self):
        for family in (Choice(10, 5), Choice(0, 0), Web(3, [(0, 0), (0, 1), (1, 2), (2, 1)]), Mirror(Choice(4, 1)),
                       Groups([0, 1, 0], [1, 0])):
            copied = told_copy(family)
            self.assertIs(copied.__class__, Told)
            self.exact(copied.lots, tuple(family.bases()))
            self.assertTrue(copied == family)
            self.exact((copied.things, copied.nodes), (family.things, 1))
