"""Points 3, 4, 5, 17 and 18 for mirrors and minors."""

from itertools import combinations

from nodearer.errors import NumberError, SizeError, ThingError
from nodearer.families.built import Both
from nodearer.families.counts import Choice
from nodearer.families.told import Told
from nodearer.families.turned import Minor, Mirror
from nodearer.families.vectors import Vectors
from nodearer.families.webs import Web
from tests.helpers import Case, subsets
from tests.test_built import SOME, mirrors


class MirrorTest(Case):
    def test_definition(self):
        for family in SOME:
            mirror = Mirror(family)
            self.assertIs(mirror.family, family)
            every = set(range(family.things))
            self.family_is(mirror, family.things, [sorted(every - set(base)) for base in family.bases()], 2)
            self.assertTrue(Mirror(mirror) == family)

    def test_examples(self):
        triangle = Web(3, [(0, 1), (1, 2), (2, 0)])
        self.exact(list(Mirror(triangle).bases()), [(0,), (1,), (2,)])
        self.exact((triangle == Choice(3, 2), Minor(triangle, [0], []).full), (True, 1))

    def test_nodes(self):
        self.assertEqual(mirrors(Choice(10, 5), 40).nodes, 40)
        self.assertEqual(mirrors(Choice(10, 3), 40), Choice(10, 7))
        self.refused(NumberError, (41,), Mirror, mirrors(Choice(10, 5), 40))
        self.assertEqual(Mirror(Both(Choice(1, 1), Choice(1, 1))).nodes, 4)


class MinorTest(Case):
    def check(self, family, taken, left):
        minor = Minor(family, taken, left)
        rest = [thing for thing in range(family.things) if thing not in taken and thing not in left]
        self.exact((minor.taken, minor.left, minor.rest), (tuple(taken), tuple(left), tuple(rest)))
        self.assertIs(minor.family, family)
        below = family.rank_of(taken)
        free = [lot for lot in subsets(len(rest))
                if family.rank_of([rest[thing] for thing in lot] + list(taken)) - below == len(lot)]
        bases = [lot for lot in free if not any(set(lot) < set(other) for other in free)]
        self.family_is(minor, len(rest), bases, family.nodes + 1)
        for lot in subsets(len(rest)):
            self.exact(minor.lifted(list(lot)), tuple(sorted([rest[thing] for thing in lot] + list(taken))))

    def test_definition(self):
        for family in SOME:
            for taken in subsets(family.things):
                others = [thing for thing in range(family.things) if thing not in taken]
                for size in range(len(others) + 1):
                    for left in combinations(others, size):
                        self.check(family, taken, left)

    def test_taken_things_that_are_not_free(self):
        self.check(Choice(5, 2), (0, 1, 3), ())
        self.check(Vectors([[1, 0], [2, 0], [0, 1], [0, 0]]), (0, 1, 3), ())
        self.check(Choice(4, 3), (), (0, 1, 2))
        self.check(Told(4, [[0, 1]]), (2, 3), (0, 1))

    def test_lots_in_any_form(self):
        minor = Minor(Choice(6, 3), [4, 1, 4], (5, 5, 0))
        self.exact((minor.taken, minor.left, minor.rest), ((1, 4), (0, 5), (2, 3)))
        self.exact(minor.lifted([1, 0, 1]), (1, 2, 3, 4))
        self.exact(minor.lifted(()), (1, 4))

    def test_lists_are_copied(self):
        taken, left = [0], [1]
        minor = Minor(Choice(4, 2), taken, left)
        taken.append(2)
        left.clear()
        self.exact((minor.taken, minor.left, minor.rest), ((0,), (1,), (2, 3)))

    def test_refusals(self):
        family = Choice(4, 2)
        self.refused(SizeError, (61,), Minor, family, [9] * 61, [9])
        self.refused(ThingError, (4,), Minor, family, [0, 4], [-1])
        self.refused(SizeError, (61,), Minor, family, [0], [9] * 61)
        self.refused(ThingError, (-1,), Minor, family, [0], [0, -1])
        self.refused(ThingError, (1,), Minor, family, [3, 2, 1], [1, 2, 0])
        self.refused(ThingError, (0,), Minor, mirrors(family, 40), [0], [0])
        self.refused(NumberError, (41,), Minor, mirrors(family, 40), [0], [1])
        self.assertEqual(Minor(mirrors(family, 39), [0], [1]).nodes, 40)

    def test_lifted_refuses(self):
        minor = Minor(Choice(6, 3), [1], [0])
        self.refused(ThingError, (4,), minor.lifted, [3, 4])
        self.refused(ThingError, (-1,), minor.lifted, [-1])
        self.refused(SizeError, (61,), minor.lifted, [0] * 61)
        self.exact(minor.lifted([0] * 60), (1, 2))
