"""Points 3, 4, 5 and 19: partner and path; first_failure stands in test_told.py."""

from itertools import combinations
from random import Random

from nodearer.errors import LotError, SizeError, ThingError
from nodearer.families.built import Both
from nodearer.families.counts import Choice, Groups
from nodearer.families.exchange import partner, path
from nodearer.families.vectors import Vectors
from nodearer.families.webs import Web
from tests.helpers import Case

SOME = [Choice(4, 2), Groups([0, 1, 0, 1], [1, 1]), Web(4, [(0, 1), (1, 2), (2, 3), (3, 0), (0, 2)]),
        Vectors([[1, 0, 0], [0, 1, 0], [1, 1, 0], [0, 0, 1], [0, 2, 1], [0, 0, 0]]), Choice(3, 3), Choice(0, 0)]


def told_partner(bases, first, second, thing):
    """The least thing with both exchanges of point 19."""
    for other in sorted(set(second) - set(first)):
        one = tuple(sorted(set(first) - {thing} | {other}))
        two = tuple(sorted(set(second) - {other} | {thing}))
        if one in bases and two in bases:
            return other
    return None


class ExchangeTest(Case):
    def test_partner(self):
        for family in SOME:
            bases = list(family.bases())
            for first in bases:
                for second in bases:
                    for thing in set(first) - set(second):
                        self.exact(partner(family, list(first), second, thing),
                                   told_partner(bases, first, second, thing))

    def test_partner_needs_both_exchanges(self):
        path_of_three = Web(3, [(0, 1), (1, 2), (0, 1), (1, 2)])
        self.exact(partner(path_of_three, [1, 0], [3, 2], 0), 2)
        self.exact(partner(path_of_three, (0, 1), (2, 3), 1), 3)

    def test_path(self):
        for family in SOME:
            bases = list(family.bases())
            for first in bases:
                for second in bases:
                    wanted = [first]
                    while wanted[-1] != second:
                        last = wanted[-1]
                        thing = min(set(last) - set(second))
                        other = told_partner(bases, last, second, thing)
                        wanted.append(tuple(sorted(set(last) - {thing} | {other})))
                    self.exact(path(family, list(first), list(second)), wanted)

    def test_long_paths(self):
        family = Choice(10, 5)
        found = path(family, [4, 3, 2, 1, 0], [9, 8, 7, 6, 5, 5])
        self.exact(found, [tuple(range(at, at + 5)) for at in range(6)])
        self.exact(path(family, range(5), range(5)), [(0, 1, 2, 3, 4)])

    def test_paths_are_new(self):
        family = Choice(2, 1)
        path(family, [0], [1]).clear()
        self.assertEqual(path(family, [0], [1]), [(0,), (1,)])

    def test_partner_refuses(self):
        family = Both(Choice(2, 1), Choice(2, 1))
        self.refused(SizeError, (61,), partner, family, [9] * 61, [9], 9)
        self.refused(ThingError, (4,), partner, family, [4], [9] * 61, 9)
        self.refused(SizeError, (61,), partner, family, [0], [9] * 61, 9)
        self.refused(ThingError, (5,), partner, family, [0], [0, 5], 9)
        self.refused(ThingError, (4,), partner, family, [0], [1], 4)
        self.refused(ThingError, (-1,), partner, family, [0], [1], -1)
        self.refused(LotError, ((0, 1),), partner, family, [1, 0, 1], [0], 3)
        self.refused(LotError, ((0,),), partner, family, [2, 0], [0], 3)
        self.refused(LotError, ((0, 1),), partner, family, [2, 0], [1, 0], 3)
        self.refused(ThingError, (3,), partner, family, [2, 0], [1, 3], 3)
        self.refused(ThingError, (0,), partner, family, [2, 0], [3, 0], 0)
        self.refused(ThingError, (1,), partner, family, [2, 0], [3, 0], 1)
        self.exact(partner(family, [2, 0], [3, 0], 2), 3)
        self.refused(LotError, ((0, 1, 2),), partner, Choice(3, 2), [2, 0, 1], [0, 1], 2)
        self.refused(LotError, ((0, 1, 2),), partner, Choice(3, 2), [0, 1], [2, 0, 1], 0)

    def test_path_refuses(self):
        family = Groups([0, 0, 1, 1], [1, 1])
        self.refused(SizeError, (61,), path, family, [9] * 61, [9])
        self.refused(ThingError, (4,), path, family, [4], [9] * 61)
        self.refused(ThingError, (4,), path, family, [0], [4])
        self.refused(LotError, ((0, 1),), path, family, [1, 0], [3])
        self.refused(LotError, ((3,),), path, family, [2, 0], [3])
        self.refused(LotError, ((0, 1, 2),), path, family, [2, 0, 1], [3, 0])
        self.refused(LotError, ((0, 1, 2),), path, family, [3, 0], [2, 0, 1])

    def test_partners_in_chance_families(self):
        random = Random(16)
        for _ in range(40):
            family = Vectors([[random.randint(-1, 1) for _ in range(3)] for _ in range(6)], random.choice([0, 2, 3]))
            bases = list(family.bases())
            for first, second in combinations(random.sample(bases, min(4, len(bases))), 2):
                for thing in set(first) - set(second):
                    self.exact(partner(family, first, second, thing), told_partner(bases, first, second, thing))
