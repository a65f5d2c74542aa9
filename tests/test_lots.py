"""Points 3, 4, 5, 9 and 10 and the section nodearer/exact/lots.py."""

from random import Random

from nodearer.errors import NumberError, SizeError, ThingError
from nodearer.exact.lots import all_lots, common, cost_of, joined, lot_of, without
from tests.helpers import Case, subsets


class LotsTest(Case):
    def test_lot_of(self):
        self.exact(lot_of(5, [3, 1, 3, 0]), (0, 1, 3))
        self.exact(lot_of(5, (4, 2)), (2, 4))
        self.exact(lot_of(0, []), ())
        self.exact(lot_of(10, list(range(9, -1, -1)) * 6), tuple(range(10)))

    def test_lot_of_refuses(self):
        self.refused(NumberError, (11,), lot_of, 11, [0])
        self.refused(NumberError, (-1,), lot_of, -1, [])
        self.refused(SizeError, (61,), lot_of, 2, [0] * 61)
        self.refused(SizeError, (61,), lot_of, 2, [7] * 61)
        self.refused(ThingError, (2,), lot_of, 2, [0, 2, 9])
        self.refused(ThingError, (-1,), lot_of, 2, [0, -1, 2])
        self.refused(ThingError, (0,), lot_of, 0, [0])
        self.refused(NumberError, (11,), lot_of, 11, [0] * 61)
        self.assertEqual(lot_of(2, [1] * 60), (1,))

    def test_all_lots(self):
        for things in range(11):
            self.assertEqual(all_lots(things), subsets(things))
        self.exact(all_lots(2), [(), (0,), (1,), (0, 1)])
        self.assertEqual(all_lots(3)[3:6], [(2,), (0, 1), (0, 2)])
        self.refused(NumberError, (11,), all_lots, 11)
        self.refused(NumberError, (-1,), all_lots, -1)

    def test_all_lots_are_new(self):
        all_lots(2).clear()
        self.assertEqual(len(all_lots(2)), 4)

    def test_sets(self):
        random = Random(3)
        for _ in range(200):
            first = [random.randrange(6) for _ in range(random.randrange(8))]
            second = tuple(random.randrange(6) for _ in range(random.randrange(8)))
            self.exact(joined(6, first, second), tuple(sorted(set(first) | set(second))))
            self.exact(common(6, first, second), tuple(sorted(set(first) & set(second))))
            self.exact(without(6, first, second), tuple(sorted(set(first) - set(second))))

    def test_sets_of_nothing(self):
        for call in (joined, common, without):
            self.exact(call(0, [], ()), ())

    def test_sets_refuse(self):
        for call in (joined, common, without):
            self.refused(NumberError, (11,), call, 11, [99], [])
            self.refused(ThingError, (3,), call, 3, [0, 3], [0] * 61)
            self.refused(SizeError, (61,), call, 3, [0] * 61, [3])
            self.refused(SizeError, (61,), call, 3, [0], [3] * 61)
            self.refused(ThingError, (-2,), call, 3, [0], [-2])

    def test_costs(self):
        self.exact(cost_of(3, [5, -7, 10 ** 6], [2, 0, 2]), 10 ** 6 + 5)
        self.exact(cost_of(3, (5, -10 ** 6, 1), (1,)), -10 ** 6)
        self.exact(cost_of(0, [], []), 0)
        self.exact(cost_of(2, [1, 2], []), 0)

    def test_costs_refuse(self):
        self.refused(NumberError, (12,), cost_of, 12, [], [])
        self.refused(SizeError, (2,), cost_of, 3, [10 ** 7, 0], [3])
        self.refused(SizeError, (4,), cost_of, 3, [0, 0, 0, 0], [])
        self.refused(NumberError, (10 ** 6 + 1,), cost_of, 2, [0, 10 ** 6 + 1], [2])
        self.refused(NumberError, (-10 ** 6 - 1,), cost_of, 2, [-10 ** 6 - 1, 10 ** 7], [])
        self.refused(ThingError, (2,), cost_of, 2, [0, 0], [0, 2])
        self.refused(SizeError, (61,), cost_of, 2, [0, 0], [5] * 61)

    def test_arguments_stay(self):
        entries, costs = [2, 0, 2], [1, 2, 3]
        lot_of(3, entries)
        cost_of(3, costs, entries)
        joined(3, entries, entries)
        self.assertEqual((entries, costs), ([2, 0, 2], [1, 2, 3]))
