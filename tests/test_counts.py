"""Points 4, 5 and 16 for choices and groups."""

from itertools import combinations
from random import Random

from nodearer.errors import NumberError, SizeError
from nodearer.families.counts import Choice, Groups
from tests.helpers import Case


class ChoiceTest(Case):
    def test_definition(self):
        for things in range(7):
            for take in range(things + 1):
                family = Choice(things, take)
                self.exact((family.take, family.things), (take, things))
                self.family_is(family, things, combinations(range(things), take))

    def test_ten_things(self):
        self.assertEqual(Choice(10, 10).sure, tuple(range(10)))
        self.assertEqual(Choice(10, 0).dead, tuple(range(10)))
        self.assertEqual(list(Choice(10, 9).bases()), list(combinations(range(10), 9)))

    def test_refusals(self):
        self.refused(NumberError, (11,), Choice, 11, 0)
        self.refused(NumberError, (-1,), Choice, -1, 99)
        self.refused(NumberError, (11,), Choice, 10, 11)
        self.refused(NumberError, (-1,), Choice, 10, -1)
        self.refused(NumberError, (4,), Choice, 3, 4)
        self.refused(NumberError, (12,), Choice, 12, 13)


class GroupsTest(Case):
    def test_definition(self):
        random = Random(9)
        for _ in range(40):
            many = random.randint(1, 4)
            groups = [random.randrange(many) for _ in range(random.randrange(7))]
            takes = [random.randint(0, groups.count(group)) for group in range(many)]
            bases = [lot for lot in combinations(range(len(groups)), sum(takes))
                     if all(sum(groups[x] == g for x in lot) == takes[g] for g in range(many))]
            family = Groups(groups, takes)
            self.exact((family.groups, family.takes), (tuple(groups), tuple(takes)))
            self.family_is(family, len(groups), bases)

    def test_edges(self):
        self.family_is(Groups([], [0, 0]), 0, [()])
        self.family_is(Groups((0, 9), (1,) + (0,) * 8 + (1,)), 2, [(0, 1)])
        self.assertEqual(Groups(list(range(10)), [1] * 10).sure, tuple(range(10)))
        self.assertEqual(Groups([0] * 10, [10]).full, 10)

    def test_lists_are_copied(self):
        groups, takes = [0, 1, 1], [1, 1]
        family = Groups(groups, takes)
        groups[0], takes[0] = 1, 0
        self.exact((family.groups, family.takes), ((0, 1, 1), (1, 1)))
        self.assertEqual(list(family.bases()), [(0, 1), (0, 2)])

    def test_refusals(self):
        self.refused(SizeError, (11,), Groups, [99] * 11, [])
        self.refused(NumberError, (10,), Groups, [0, 10, -1], [0] * 11)
        self.refused(NumberError, (-1,), Groups, [-1], [1])
        self.refused(SizeError, (11,), Groups, [5], [11] * 11)
        self.refused(NumberError, (11,), Groups, [5], [1, 11])
        self.refused(NumberError, (-2,), Groups, [0], [-2])
        self.refused(NumberError, (2,), Groups, [0, 2, 3], [5, 0])
        self.refused(NumberError, (0,), Groups, [0], [])
        self.refused(NumberError, (3,), Groups, [0, 0, 1], [2, 3])
        self.refused(NumberError, (1,), Groups, [0, 0, 0], [1, 1])
        self.refused(NumberError, (4,), Groups, [0, 0, 0], [4, 9])
