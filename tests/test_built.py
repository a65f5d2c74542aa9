"""Points 3, 5, 17 and 18 for both and short."""

from itertools import combinations

from nodearer.errors import NumberError, SizeError
from nodearer.families.built import Both, Short
from nodearer.families.counts import Choice, Groups
from nodearer.families.told import Told
from nodearer.families.turned import Mirror
from nodearer.families.webs import Web
from tests.helpers import Case

SOME = [Choice(0, 0), Choice(3, 1), Groups([0, 1, 0], [1, 1]), Web(3, [(0, 1), (1, 0), (1, 2), (2, 2)]),
        Told(3, [[0, 1], [0, 2]])]


def mirrors(family, nodes):
    """A family with so many nodes."""
    while family.nodes < nodes:
        family = Mirror(family)
    return family


class BothTest(Case):
    def test_definition(self):
        for first in SOME:
            for second in SOME:
                family = Both(first, second)
                self.assertIs(family.first, first)
                self.assertIs(family.second, second)
                bases = [one + tuple(thing + first.things for thing in two)
                         for one in first.bases() for two in second.bases()]
                self.family_is(family, first.things + second.things, bases, 3)

    def test_edges(self):
        self.assertEqual(Both(Choice(10, 4), Choice(0, 0)), Choice(10, 4))
        self.assertEqual(Both(Choice(5, 5), Choice(5, 5)), Choice(10, 10))
        self.assertEqual(Both(mirrors(Choice(1, 0), 20), mirrors(Choice(1, 1), 19)).nodes, 40)

    def test_refusals(self):
        self.refused(SizeError, (11,), Both, Choice(5, 1), Choice(6, 1))
        self.refused(SizeError, (20,), Both, mirrors(Choice(10, 1), 30), mirrors(Choice(10, 1), 30))
        self.refused(NumberError, (41,), Both, mirrors(Choice(1, 0), 20), mirrors(Choice(1, 1), 20))
        self.refused(NumberError, (81,), Both, mirrors(Choice(1, 0), 40), mirrors(Choice(1, 1), 40))


class ShortTest(Case):
    def test_definition(self):
        for family in SOME:
            for take in range(family.full + 1):
                short = Short(family, take)
                self.assertIs(short.family, family)
                self.exact(short.take, take)
                bases = [lot for lot in combinations(range(family.things), take) if family.free(lot)]
                self.family_is(short, family.things, bases, 2)

    def test_edges(self):
        self.assertEqual(Short(Choice(10, 10), 10), Choice(10, 10))
        self.assertEqual(Short(Short(Choice(10, 8), 5), 3), Choice(10, 3))
        self.assertEqual(Short(mirrors(Choice(2, 1), 39), 1).nodes, 40)

    def test_refusals(self):
        self.refused(NumberError, (11,), Short, Choice(3, 2), 11)
        self.refused(NumberError, (-1,), Short, Choice(3, 2), -1)
        self.refused(NumberError, (3,), Short, Choice(3, 2), 3)
        self.refused(NumberError, (2,), Short, mirrors(Choice(2, 1), 40), 2)
        self.refused(NumberError, (41,), Short, mirrors(Choice(2, 1), 40), 1)
