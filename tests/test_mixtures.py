"""Points 3 to 5, 9, 10 and 24 and the section nodearer/shares/mixtures.py."""

from fractions import Fraction
from random import Random

from nodearer.errors import NumberError, SizeError, ThingError, WeightError
from nodearer.exact.ratios import MOST, Ratio
from nodearer.shares.mixtures import Mixture
from tests.helpers import subsets
from tests.plans import FAMILIES, HALF, PlanCase, R, frac, fracs, is_mixture_of, mixed, ratio_for, shares_by, table_of

THIRD = Ratio(1, 3)


def some_pairs(random, things, many, bound=9):
    """Pairs whose weights add up to 1; lots may occur again, and so may things."""
    parts = [random.randint(1, bound) for _ in range(many)]
    lots = [[random.randrange(things) for _ in range(random.randrange(6))] if things else [] for _ in parts]
    return [(R(part, sum(parts)), lot) for part, lot in zip(parts, lots)]


def table_by(pairs):
    table = {}
    for weight, lot in pairs:
        key = tuple(sorted(set(lot)))
        table[key] = table.get(key, 0) + frac(weight)
    return table


def even(things, lots):
    return Mixture(things, [(R(1, len(lots)), lot) for lot in lots])


class MakingTest(PlanCase):
    def test_definition(self):
        random = Random(30)
        for seed in range(300):
            things = random.randrange(6)
            pairs = some_pairs(random, things, random.randint(1, 20))
            mixture = self.asked(Mixture, things, pairs if seed % 2 else tuple(pairs))
            table = table_by(pairs)
            lots = sorted(table, key=lambda lot: (len(lot), lot))
            self.exact(mixture.things, things)
            self.exact(mixture.pairs, tuple((ratio_for(table[lot]), lot) for lot in lots))
            self.exact(mixture.shares, tuple(ratio_for(share) for share in shares_by(things, table)))
            self.exact(len(mixture), len(table))
            self.exact(list(mixture), list(mixture.pairs))
            costs = [random.randint(-9, 9) for _ in range(things)]
            wanted = sum([weight * sum(costs[x] for x in lot) for lot, weight in table.items()], Fraction(0))
            self.exact(self.asked(mixture.mean, costs), ratio_for(wanted))
            for lot in subsets(things):
                self.exact(mixture.weight_of(list(lot)[::-1] * 2), ratio_for(Fraction(table.get(lot, 0))))

    def test_told(self):
        mixture = Mixture(4, [(HALF, [3, 1, 3]), (R(1, 6), ()), (R(1, 12), (2, 0)), (R(1, 4), [1, 3])])
        self.exact(mixture.pairs, ((R(1, 6), ()), (R(1, 12), (0, 2)), (R(3, 4), (1, 3))))
        self.exact(mixture.shares, (R(1, 12), R(3, 4), R(1, 12), R(3, 4)))
        self.exact([lot for _, lot in mixture], [(), (0, 2), (1, 3)])
        self.exact((mixture.weight_of([3, 1]), mixture.weight_of([1])), (R(3, 4), R(0)))
        self.exact(mixture.mean((4, 8, -4, 0)), R(6))

    def test_lots_are_ordered_by_size_first(self):
        self.exact([lot for _, lot in even(4, [[1, 2, 3], [3], [0, 2], [0, 1, 3], [], [0, 1], [2]])],
                   [(), (2,), (3,), (0, 1), (0, 2), (0, 1, 3), (1, 2, 3)])

    def test_no_things_and_ten(self):
        none = Mixture(0, [(THIRD, []), (R(2, 3), ())])
        self.exact((none.pairs, none.shares, len(none)), (((R(1), ()),), (), 1))
        self.exact((none.mean([]), none.weight_of([]), none.trimmed().pairs), (R(0), R(1), ((R(1), ()),)))
        ten = even(10, [[9] * 60, range(10)])
        self.exact(ten.pairs, ((HALF, (9,)), (HALF, tuple(range(10)))))
        self.refused(NumberError, (11,), Mixture, 11, [])
        self.refused(NumberError, (-1,), Mixture, -1, [])

    def test_equal(self):
        one = Mixture(3, [(HALF, [0, 1]), (THIRD, [2]), (R(1, 6), [2])])
        self.assertIs(one == Mixture(3, [(HALF, [2, 2]), (HALF, [1, 0])]), True)
        self.assertIs(one == Mixture(4, [(HALF, [2]), (HALF, [1, 0])]), False)
        self.assertIs(one == Mixture(3, [(HALF, [1]), (HALF, [1, 0])]), False)
        self.assertIs(one == Mixture(3, [(THIRD, [2]), (R(2, 3), [1, 0])]), False)
        for other in (None, 1, "a", one.pairs, list(one.pairs), R(1)):
            self.assertIs(one == other, False)
        self.assertFalse(even(2, [[0], [1]]) == even(2, [[], [0, 1]]))

    def test_later_changes(self):
        lot, pairs = [0, 1], [(HALF, [2])]
        pairs.append((HALF, lot))
        mixture = Mixture(3, pairs)
        lot.append(2)
        pairs.pop()
        list(mixture).pop()
        self.exact(mixture.pairs, ((HALF, (2,)), (HALF, (0, 1))))
        self.exact(mixture.shares, (HALF, HALF, HALF))


class RefusalTest(PlanCase):
    def test_number_of_pairs(self):
        self.refused(SizeError, (0,), Mixture, 3, [])
        self.refused(SizeError, (1001,), Mixture, 3, [(R(0), [9])] * 1001)
        many = Mixture(3, [(R(1, 1000), [at % 3]) for at in range(1000)])
        self.exact(many.pairs, ((R(167, 500), (0,)), (R(333, 1000), (1,)), (R(333, 1000), (2,))))

    def test_weights(self):
        self.refused(WeightError, (0,), Mixture, 3, [(R(0), [0]), (R(1), [0])])
        self.refused(WeightError, (1,), Mixture, 3, [(HALF, [0]), (R(-1, 2), [0]), (R(1), [7])])
        self.refused(WeightError, (2,), Mixture, 3, [(R(5), [0]), (R(5), [0]), (R(-9), [0])])
        self.refused(WeightError, (-1,), Mixture, 3, [(HALF, [0]), (THIRD, [0])])
        self.refused(WeightError, (-1,), Mixture, 3, [(HALF, [0]), (HALF, [0]), (R(1, 10 ** 300), [0])])
        self.refused(WeightError, (-1,), Mixture, 3, [(R(MOST), [0])])
        self.refused(WeightError, (-1,), Mixture, 0, [(R(1, 10 ** 60), [])])

    def test_lots(self):
        self.refused(ThingError, (3,), Mixture, 3, [(HALF, [0, 3, -1]), (R(0), [0])])
        self.refused(ThingError, (-1,), Mixture, 3, [(R(3), [0, -1])])
        self.refused(ThingError, (0,), Mixture, 0, [(R(3), [0])])
        self.refused(SizeError, (61,), Mixture, 3, [(HALF, [0] * 60), (THIRD, [5] * 61), (R(0), [])])

    def test_weight_before_lot(self):
        self.refused(WeightError, (0,), Mixture, 3, [(R(0), [5])])
        self.refused(WeightError, (1,), Mixture, 3, [(HALF, [2]), (R(-1), [0] * 61)])
        self.refused(NumberError, (10 ** 400 + 1,), Mixture, 3, [(R(1, 10 ** 400 + 1), [5])])

    def test_running_denominator(self):
        far = 10 ** 400
        self.exact(Mixture(2, [(R(1, far), [1]), (R(far - 1, far), [1, 1])]).pairs, ((R(1), (1,)),))
        self.refused(NumberError, (far + 1,), Mixture, 2, [(R(1, far + 1), [1]), (R(far, far + 1), [1]), (R(0), [])])
        self.refused(NumberError, (far * (far - 1),), Mixture, 2, [(R(1, far), [1]), (R(1, far - 1), [7])])
        self.refused(NumberError, (MOST,), Mixture, 2, [(R(1, MOST), [1])])
        self.refused(ThingError, (2,), Mixture, 2, [(R(1, far), [2]), (R(1, far + 1), [0])])
        self.refused(WeightError, (-1,), Mixture, 2, [(R(1, far), [0]), (R(1, 10 ** 50), [1])])

    def test_denominator(self):
        far = 10 ** 40
        mixture = Mixture(2, [(R(1, 2 * far), [0]), (R(far - 1, far), [1]), (R(1, 2 * far), [0])])
        self.exact(mixture.pairs, ((R(1, far), (0,)), (R(far - 1, far), (1,))))
        self.exact(mixture.mean([-10 ** 6, 10 ** 6]), R(10 ** 6 * (far - 2), far))
        self.refused(NumberError, (far + 1,), Mixture, 2, [(R(1, far + 1), [0]), (R(far, far + 1), [1])])
        one, two = 10 ** 25, 10 ** 25 + 1
        pairs = [(R(1, one), [0]), (R(1, two), [1]), (R(one * two - one - two, one * two), [])]
        self.refused(NumberError, (one * two,), Mixture, 2, pairs)

    def test_methods(self):
        mixture = even(3, [[0], [1, 2]])
        self.refused(ThingError, (3,), mixture.weight_of, [0, 3])
        self.refused(SizeError, (61,), mixture.weight_of, [3] * 61)
        self.exact(mixture.weight_of((2, 1) * 30), HALF)
        self.refused(SizeError, (2,), mixture.mean, [0, 10 ** 7])
        self.refused(SizeError, (4,), mixture.mean, [0] * 4)
        self.refused(NumberError, (-10 ** 6 - 1,), mixture.mean, [10 ** 6, -10 ** 6 - 1, 10 ** 7])


class TrimmedTest(PlanCase):
    def check(self, mixture):
        trimmed = self.asked(mixture.trimmed)
        self.assertIs(trimmed.__class__, Mixture)
        self.exact(trimmed.things, mixture.things)
        self.assertTrue(is_mixture_of(trimmed, table_of(mixture), fracs(mixture.shares)))
        same = len({len(lot) for _, lot in mixture}) == 1
        self.assertLessEqual(len(trimmed), max(mixture.things, 1) if same else mixture.things + 1)
        self.exact(len(trimmed), len(trimmed.pairs))
        return trimmed

    def test_chance(self):
        random = Random(31)
        for _ in range(150):
            things = random.randrange(7)
            self.check(Mixture(things, some_pairs(random, things, random.randint(1, 40))))
        for family in FAMILIES:
            for _ in range(5):
                table = mixed(random, list(family.bases()))
                self.check(Mixture(family.things, [(ratio_for(table[lot]), lot) for lot in table]))

    def test_many_lots(self):
        halves = [lot for lot in subsets(10) if len(lot) % 2]
        self.assertEqual(len(halves), 512)
        self.assertEqual(self.check(even(10, halves)).shares, (HALF,) * 10)
        self.check(even(10, [lot for lot in subsets(10) if len(lot) == 5]))
        self.check(even(10, subsets(10)[:1000]))

    def test_denominators(self):
        random = Random(32)
        for things in (3, 6, 10):
            far = 10 ** 40 - random.randrange(10 ** 9)
            marks = sorted(random.sample(range(1, 10 ** 18), 60))
            parts = [high - low for low, high in zip([0] + marks, marks)]
            parts.append(far - sum(parts))
            pairs = [(R(part, far), [x for x in range(things) if random.random() < 0.5]) for part in parts]
            trimmed = self.check(self.check(Mixture(things, pairs)))
            for weight, _ in trimmed:
                self.assertLessEqual(weight.den, 10 ** 50)

    def test_few_lots_stay(self):
        for lots in ([[0, 1]], [[], [0], [1], [2]], [[0, 1], [1, 2], [0, 2]], [[0, 1, 2]]):
            mixture = even(3, lots)
            self.assertEqual(mixture.trimmed(), mixture)


class BlendTest(PlanCase):
    def test_definition(self):
        random = Random(33)
        for seed in range(200):
            things, many = random.randrange(5), random.randint(1, 5)
            mixtures = [Mixture(things, some_pairs(random, things, random.randint(1, 6))) for _ in range(many)]
            marks = [random.randint(1, 9) for _ in mixtures]
            parts = [(R(mark, sum(marks)), mixture) for mark, mixture in zip(marks, mixtures)]
            blended = self.asked(Mixture.blend, things, parts if seed % 2 else tuple(parts))
            pairs = [(weight * part, lot) for part, mixture in parts for weight, lot in mixture]
            self.assertIs(blended.__class__, Mixture)
            self.assertTrue(blended == Mixture(things, pairs))
            self.exact(blended.shares, Mixture(things, pairs).shares)

    def test_told(self):
        one, two = even(3, [[0], [1]]), even(3, [[1], [2], [0, 2]])
        blended = Mixture.blend(3, [(R(2, 5), one), (R(3, 5), two)])
        self.exact(blended.pairs, ((R(1, 5), (0,)), (R(2, 5), (1,)), (R(1, 5), (2,)), (R(1, 5), (0, 2))))
        self.exact(Mixture.blend(0, [(R(1), even(0, [[]]))]).pairs, ((R(1), ()),))

    def test_more_than_1000_lots(self):
        lots = subsets(10)
        blended = Mixture.blend(10, [(R(600, 1024), even(10, lots[:600])), (R(424, 1024), even(10, lots[600:]))])
        self.exact(len(blended), 1024)
        self.exact(blended.shares, (HALF,) * 10)
        self.assertLessEqual(len(blended.trimmed()), 11)

    def test_refusals(self):
        one, other = even(3, [[0], [1]]), even(2, [[0], [1]])
        self.refused(NumberError, (11,), Mixture.blend, 11, [])
        self.refused(SizeError, (0,), Mixture.blend, 3, [])
        self.refused(SizeError, (21,), Mixture.blend, 3, [(R(0), other)] * 21)
        self.assertEqual(Mixture.blend(3, [(R(1, 20), one)] * 20), one)
        self.refused(WeightError, (1,), Mixture.blend, 3, [(HALF, other), (R(0), one), (R(-1), one)])
        self.refused(WeightError, (0,), Mixture.blend, 3, [(R(-1, 3), one)])
        self.refused(WeightError, (-1,), Mixture.blend, 3, [(HALF, other), (THIRD, one)])
        self.refused(SizeError, (2,), Mixture.blend, 3, [(HALF, one), (HALF, other)])
        self.refused(SizeError, (4,), Mixture.blend, 3, [(HALF, even(4, [[]])), (HALF, other)])

    def test_denominators(self):
        far, one = 10 ** 400, even(3, [[0], [1]])
        self.refused(NumberError, (far + 1,), Mixture.blend, 3, [(R(1, far + 1), one), (R(0), one)])
        self.refused(WeightError, (1,), Mixture.blend, 3, [(R(1, far), one), (R(0), one)])
        parts = [(R(1, far), even(3, [[0]])), (R(far - 1, far), even(3, [[0, 0]]))]
        self.exact(Mixture.blend(3, parts).pairs, ((R(1), (0,)),))
        parts = [(R(1, far), even(2, [[0]])), (R(far - 1, far), even(3, [[1]]))]
        self.refused(SizeError, (2,), Mixture.blend, 3, parts)
        parts = [(R(1, far), even(3, [[0]])), (R(far - 1, far), even(3, [[1]]))]
        self.refused(NumberError, (far,), Mixture.blend, 3, parts)
        bound = 10 ** 20
        fine = Mixture(3, [(R(1, bound), [0]), (R(bound - 1, bound), [1])])
        blended = Mixture.blend(3, [(R(1, bound), fine), (R(bound - 1, bound), even(3, [[2]]))])
        self.exact(blended.weight_of([0]), R(1, 10 ** 40))
        finer = Mixture(3, [(R(1, bound + 1), [0]), (R(bound, bound + 1), [1])])
        parts = [(R(1, bound), finer), (R(bound - 1, bound), even(3, [[2]]))]
        self.refused(NumberError, (bound * (bound + 1),), Mixture.blend, 3, parts)

    def test_later_changes(self):
        parts = [(HALF, even(3, [[0]])), (HALF, even(3, [[1]]))]
        blended = Mixture.blend(3, parts)
        parts.pop()
        self.assertEqual(blended, even(3, [[0], [1]]))
