"""Points 4, 5 and 16 for webs."""

from itertools import combinations
from random import Random

from nodearer.errors import NumberError, SizeError
from nodearer.families.counts import Choice
from nodearer.families.webs import Web
from tests.helpers import Case, greatest


def is_free(ties, lot):
    """No ties of the lot meet every place an even number of times, as a closed walk would."""
    for size in range(1, len(lot) + 1):
        for part in combinations(lot, size):
            ends = [end for at in part for end in ties[at]]
            if all(ends.count(end) % 2 == 0 for end in ends):
                return False
    return True


class WebTest(Case):
    def test_definition(self):
        random = Random(11)
        for _ in range(60):
            places = random.randint(1, 5)
            ties = [(random.randrange(places), random.randrange(places)) for _ in range(random.randrange(7))]
            family = Web(places, [list(tie) for tie in ties])
            self.exact((family.places, family.ties), (places, tuple(ties)))
            self.family_is(family, len(ties), greatest(len(ties), lambda lot: is_free(ties, lot)))

    def test_loops_and_doubled_ties(self):
        family = Web(3, [(1, 1), (0, 1), (1, 0), (0, 1)])
        self.family_is(family, 4, [(1,), (2,), (3,)])
        self.exact((family.dead, family.sure), ((0,), ()))
        self.exact(family.ring([1], 2), (1, 2))
        self.exact(family.ring([1], 0), (0,))
        self.exact(Web(2, [(0, 1)]).sure, (0,))

    def test_edges(self):
        self.family_is(Web(0, []), 0, [()])
        self.family_is(Web(11, ()), 0, [()])
        self.exact(Web(11, [(at, at + 1) for at in range(10)]).full, 10)
        self.assertEqual(Web(10, [(at, (at + 1) - 10 * (at == 9)) for at in range(10)]), Choice(10, 9))
        self.assertEqual(Web(1, [(0, 0)] * 10), Choice(10, 0))
        self.assertEqual(Web(3, [(0, 1), (1, 2), (2, 0)]), Choice(3, 2))

    def test_lists_are_copied(self):
        tie = [0, 1]
        ties = [tie]
        family = Web(2, ties)
        tie[1] = 0
        ties.append([1, 1])
        self.exact(family.ties, ((0, 1),))
        self.exact((family.things, family.full), (1, 1))

    def test_refusals(self):
        self.refused(NumberError, (12,), Web, 12, [[0]] * 11)
        self.refused(NumberError, (-1,), Web, -1, [])
        self.refused(SizeError, (11,), Web, 2, [[0]] * 11)
        self.refused(SizeError, (3,), Web, 2, [[0, 1], [0, 99, 1], [0]])
        self.refused(SizeError, (1,), Web, 2, [[99], (0, 11)])
        self.refused(SizeError, (0,), Web, 2, [()])
        self.refused(NumberError, (11,), Web, 2, [(5, 5), (0, 11)])
        self.refused(NumberError, (-1,), Web, 2, [(-1, 11)])
        self.refused(NumberError, (3,), Web, 2, [(0, 1), (1, 3), (4, 0)])
        self.refused(NumberError, (2,), Web, 2, [(0, 1), (2, 4)])
        self.refused(NumberError, (0,), Web, 0, [(0, 0)])
        self.refused(NumberError, (10,), Web, 10, [(0, 10)])
        Web(11, [(10, 10)] * 10)
