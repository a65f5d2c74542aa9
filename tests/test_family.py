"""Points 3 to 5, 14, 15 and 18: what holds for the methods of every family."""

from nodearer.errors import LotError, SizeError, ThingError
from nodearer.families.built import Both, Short
from nodearer.families.counts import Choice, Groups
from nodearer.families.family import MOST_NODES, MOST_THINGS, Family
from nodearer.families.rooms import Rooms
from nodearer.families.seats import Seats
from nodearer.families.told import Told
from nodearer.families.turned import Minor, Mirror
from nodearer.families.vectors import Vectors
from nodearer.families.webs import Web
from tests.helpers import Case

# One family of each class with the bases (0, 1), (0, 2), (1, 2) of three things.
THREE = [Choice(3, 2), Groups([0, 0, 0], [2]), Rooms(3, [([0, 1, 2], 2)]), Web(3, [(0, 1), (1, 2), (2, 0)]),
         Vectors([[1, 0], [0, 1], [1, 1]]), Seats(2, [[0, 1]] * 3), Told(3, [[1, 2], [0, 1], [0, 2]]),
         Both(Choice(3, 2), Choice(0, 0)), Short(Choice(3, 3), 2), Mirror(Choice(3, 1)),
         Minor(Choice(4, 2), [], [3])]


class FamilyTest(Case):
    def test_constants(self):
        self.exact((MOST_THINGS, MOST_NODES), (10, 40))

    def test_every_class(self):
        self.assertEqual(len({family.__class__ for family in THREE}), 11)
        for family in THREE:
            self.assertIsInstance(family, Family)
            self.assertEqual(family.__class__.__bases__, (Family,))
            self.family_is(family, 3, [(0, 1), (0, 2), (1, 2)], family.nodes)

    def test_nodes(self):
        self.assertEqual([family.nodes for family in THREE], [1] * 7 + [3, 2, 2, 2])

    def test_equality(self):
        for one in THREE:
            for two in THREE:
                self.assertIs(one == two, True)
                self.assertIs(one != two, False)
            for other in (Choice(3, 1), Choice(4, 2), Choice(2, 2), Groups([0, 0, 1], [1, 1]), None, 3, "x", [(0, 1)]):
                self.assertIs(one == other, False)
        self.assertIs(Choice(0, 0) == Web(5, []), True)
        self.assertIs(Choice(0, 0) == Choice(1, 0), False)
        self.assertIs(Choice(10, 0) == Choice(9, 0), False)

    def test_lots_in_any_form(self):
        for family in THREE:
            for lot in ([1, 0], (0, 1), [1, 1, 0, 0], [0, 1] * 30):
                self.assertIs(family.free(lot), True)
                self.assertIs(family.is_base(lot), True)
                self.exact(family.rank_of(lot), 2)
                self.exact(family.span(lot), (0, 1, 2))
                self.exact(family.ring(lot, 2), (0, 1, 2))
            self.assertIs(family.is_base([2]), False)
            self.assertIs(family.is_base([0, 1, 2]), False)
            self.assertIs(family.free([0, 1, 2]), False)
            self.assertIsNone(family.ring([1, 0], 1))
            self.assertIsNone(family.ring([1], 2))

    def test_wrong_lots(self):
        for family in THREE:
            for call in (family.free, family.is_base, family.rank_of, family.span):
                self.refused(SizeError, (61,), call, [0] * 61)
                self.refused(SizeError, (61,), call, [3] * 61)
                self.refused(ThingError, (3,), call, [0, 3, -1])
                self.refused(ThingError, (-1,), call, [-1, 3])

    def test_wrong_rings(self):
        for family in THREE:
            self.refused(LotError, ((0, 1, 2),), family.ring, [2, 0, 1, 1], 0)
            self.refused(ThingError, (3,), family.ring, [2, 0, 1], 3)
            self.refused(ThingError, (-1,), family.ring, [2, 0, 1], -1)
            self.refused(ThingError, (7,), family.ring, [7], -1)
            self.refused(SizeError, (61,), family.ring, [0] * 61, 5)

    def test_no_things(self):
        for family in (Choice(0, 0), Groups([], []), Rooms(0, []), Web(0, []), Vectors([]), Seats(0, []), Told(0, [[]])):
            self.family_is(family, 0, [()])
            self.refused(ThingError, (0,), family.free, [0])
            self.refused(ThingError, (0,), family.ring, [], 0)

    def test_dead_and_sure_things(self):
        family = Told(4, [[0, 1], [0, 2]])
        self.exact((family.dead, family.sure), ((3,), (0,)))
        self.exact(family.span([]), (3,))
        self.exact(family.ring([], 3), (3,))
        self.exact(family.ring([0, 1], 3), (3,))
        self.exact(family.ring([0, 1], 2), (1, 2))

    def test_bases_can_be_asked_again(self):
        family = Choice(4, 2)
        self.assertEqual(list(family.bases()), list(family.bases()))
        first, second = iter(family.bases()), iter(family.bases())
        self.assertEqual([next(first), next(second), next(first)], [(0, 1), (0, 1), (0, 2)])
        self.assertEqual(len(list(Choice(10, 5).bases())), 252)

    def test_bases_is_a_generator(self):
        self.assertTrue(hasattr(Choice(3, 1).bases(), "send"))
