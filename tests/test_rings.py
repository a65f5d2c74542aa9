"""Points 3, 15 and 20: rings, cuts and flats."""

from random import Random

from nodearer.families.built import Both
from nodearer.families.counts import Choice
from nodearer.families.rings import cuts, flats, rings
from nodearer.families.told import Told
from nodearer.families.turned import Minor, Mirror
from nodearer.families.vectors import Vectors
from nodearer.families.webs import Web
from tests.helpers import Case, subsets
from tests.test_built import mirrors


def least(lots):
    """The lots of which no smaller part is among them."""
    return [lot for lot in lots if not any(set(other) < set(lot) for other in lots)]


class RingsTest(Case):
    def check(self, family):
        bases = [set(base) for base in family.bases()]
        every = subsets(family.things)
        tied = [lot for lot in every if not any(set(lot) <= base for base in bases)]
        meeting = [lot for lot in every if all(set(lot) & base for base in bases)]
        self.exact(rings(family), least(tied))
        self.exact(cuts(family), least(meeting))
        rank = {lot: max(len(set(lot) & base) for base in bases) for lot in every}
        whole = [lot for lot in every
                 if not any(rank[tuple(sorted(lot + (x,)))] == rank[lot] for x in range(family.things) if x not in lot)]
        self.exact(flats(family), whole)
        for ring in rings(family):
            for cut in cuts(family):
                self.assertNotEqual(len(set(ring) & set(cut)), 1)

    def test_definitions(self):
        random = Random(17)
        for _ in range(30):
            rows = [[random.randint(-1, 1) for _ in range(3)] for _ in range(random.randrange(6))]
            self.check(Vectors(rows, random.choice([0, 2])))
        for family in (Choice(0, 0), Choice(4, 0), Choice(4, 4), Choice(5, 2), Told(3, [[0, 1], [0, 2]]),
                       Web(4, [(0, 1), (1, 2), (2, 0), (2, 3), (3, 3), (1, 0)]),
                       Minor(Choice(5, 3), [0], [1]), Mirror(Web(2, [(0, 1), (0, 1)]))):
            self.check(family)

    def test_told(self):
        triangle = Web(3, [(0, 1), (1, 2), (2, 0)])
        self.exact(rings(triangle), [(0, 1, 2)])
        self.exact(cuts(triangle), [(0, 1), (0, 2), (1, 2)])
        self.exact(flats(triangle), [(), (0,), (1,), (2,), (0, 1, 2)])
        self.exact(rings(Both(Choice(1, 0), Choice(2, 1))), [(0,), (1, 2)])
        self.exact(cuts(Both(Choice(1, 1), Choice(2, 1))), [(0,), (1, 2)])

    def test_no_things(self):
        for call, wanted in ((rings, []), (cuts, []), (flats, [()])):
            self.exact(call(Choice(0, 0)), wanted)

    def test_ten_things_and_forty_nodes(self):
        family = mirrors(Choice(10, 5), 40)
        self.assertEqual((len(rings(family)), len(cuts(family)), len(flats(family))), (210, 210, 386 + 1))
        self.assertEqual(cuts(mirrors(Choice(3, 1), 40)), cuts(Choice(3, 2)))

    def test_lists_are_new(self):
        family = Choice(3, 1)
        for call in (rings, cuts, flats):
            before = call(family)
            call(family).clear()
            self.assertEqual(call(family), before)
