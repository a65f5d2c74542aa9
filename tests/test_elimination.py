"""Points 4, 5, 11 and 12 and the section nodearer/exact/elimination.py."""

from fractions import Fraction
from math import gcd
from random import Random

from nodearer.errors import NumberError, SizeError
from nodearer.exact.elimination import combination_of, direction_of, rank_of_rows
from nodearer.exact.ratios import Ratio
from tests.helpers import Case

CALLS = (rank_of_rows, direction_of, lambda rows, width: combination_of(rows, width, [0] * min(max(width, 0), 10)))


def rank(rows):
    """The rank by elimination over fractions."""
    rest = [[Fraction(entry) for entry in row] for row in rows]
    found = 0
    for column in range(len(rest[0]) if rest else 0):
        pivots = [row for row in rest if row[column]]
        if not pivots:
            continue
        found += 1
        pivot = pivots[0]
        rest = [[x - row[column] / pivot[column] * y for x, y in zip(row, pivot)] for row in rest if row is not pivot]
    return found


def some_rows(random, width, bound):
    rows = [[random.randint(-bound, bound) for _ in range(width)] for _ in range(random.randrange(7))]
    for at in range(2, len(rows)):
        if random.randrange(2):
            one, two = random.randint(-1, 1), random.randint(-1, 1)
            rows[at] = [one * x + two * y for x, y in zip(rows[0], rows[1])]
    return rows


class EliminationTest(Case):
    def test_rank(self):
        random = Random(4)
        for _ in range(300):
            width = random.randrange(8)
            rows = some_rows(random, width, random.choice([1, 3, 5000]))
            self.exact(rank_of_rows(rows, width), rank(rows))

    def test_rank_at_the_bounds(self):
        random = Random(5)
        rows = [[random.choice([-10 ** 4, 10 ** 4, 9999, 0]) for _ in range(10)] for _ in range(30)]
        self.exact(rank_of_rows(rows, 10), rank(rows))
        self.exact(rank_of_rows([], 0), 0)
        self.exact(rank_of_rows([], 10), 0)
        self.exact(rank_of_rows([[], []], 0), 0)
        self.exact(rank_of_rows(((1, 2), (2, 4)), 2), 1)
        self.exact(rank_of_rows([[0, 0, 0]], 3), 0)

    def test_direction(self):
        random = Random(6)
        for _ in range(300):
            width = random.randrange(8)
            rows = some_rows(random, width, random.choice([1, 3, 5000]))
            self.check_direction(rows, width)
        rows = [[random.choice([-10 ** 4, 10 ** 4, 9999, 7]) for _ in range(10)] for _ in range(9)]
        self.check_direction(rows, 10)

    def check_direction(self, rows, width):
        vector = direction_of(rows, width)
        if rank(rows) == width:
            self.assertIsNone(vector)
            return
        columns = [[row[at] for row in rows] for at in range(width)]
        least = [at for at in range(width) if rank(columns[:at + 1]) == rank(columns[:at])][0]
        self.assertIs(vector.__class__, list)
        self.assertEqual(len(vector), width)
        self.assertTrue(all(entry.__class__ is int for entry in vector))
        for row in rows:
            self.assertEqual(sum(x * y for x, y in zip(row, vector)), 0)
        self.assertNotEqual(vector[least], 0)
        self.assertFalse(any(vector[least + 1:]))
        self.assertEqual(gcd(*vector), 1)
        self.assertGreater([entry for entry in vector if entry][0], 0)

    def test_directions_told(self):
        self.exact(direction_of([[1, 1, 0], [2, 2, 0]], 3), [1, -1, 0])
        self.exact(direction_of([[0, 1], [0, 2]], 2), [1, 0])
        self.exact(direction_of([], 3), [1, 0, 0])
        self.exact(direction_of([[2, 3]], 2), [3, -2])
        self.exact(direction_of([[2, 0, 3], [0, 5, 7]], 3), [15, 14, -10])
        self.exact(direction_of(((1, 0, 1), (0, 1, 1)), 3), [1, 1, -1])
        self.assertIsNone(direction_of([], 0))
        self.assertIsNone(direction_of([[]], 0))
        self.assertIsNone(direction_of([[3]], 1))

    def test_combination(self):
        random = Random(7)
        seen = set()
        for _ in range(400):
            width = random.randrange(7)
            rows = some_rows(random, width, random.choice([1, 3, 900]))
            if random.randrange(2) and rows:
                target = [0] * width
                for row in rows:
                    times = random.randint(-1, 1)
                    target = [x + times * y for x, y in zip(target, row)]
            else:
                target = [random.randint(-3, 3) for _ in range(width)]
            answer = combination_of(rows, width, target)
            seen.add(answer is None)
            if answer is None:
                self.assertGreater(rank(rows + [target]), rank(rows))
                continue
            self.assertEqual([ratio.__class__ for ratio in answer], [Ratio] * len(rows))
            for at in range(width):
                self.assertEqual(sum(Fraction(ratio.num, ratio.den) * row[at] for ratio, row in zip(answer, rows)),
                                 target[at])
        self.assertEqual(seen, {True, False})

    def test_combinations_told(self):
        self.assertEqual(combination_of([[2, 0], [0, 3]], 2, (1, 1)), [Ratio(1, 2), Ratio(1, 3)])
        self.assertEqual(combination_of([], 0, []), [])
        self.assertEqual(combination_of([], 2, [0, 0]), [])
        self.assertIsNone(combination_of([], 2, [0, 1]))
        self.assertEqual(len(combination_of([[], []], 0, [])), 2)
        self.assertIsNone(combination_of([[1, 1]], 2, [1, 2]))

    def test_sizes(self):
        for call in CALLS:
            self.refused(SizeError, (31,), call, [[]] * 31, 0)
            call([[]] * 30, 0)
            self.refused(SizeError, (11,), call, [[0] * 10, [0] * 11], 10)
            self.refused(NumberError, (11,), call, [], 11)
            self.refused(NumberError, (-1,), call, [], -1)
            self.refused(NumberError, (10 ** 4 + 1,), call, [[0], [10 ** 4 + 1]], 1)
            self.refused(NumberError, (-10 ** 4 - 1,), call, [[-10 ** 4 - 1]], 1)
            call([[10 ** 4, -10 ** 4]], 2)
            self.refused(SizeError, (3,), call, [[1, 2], [1, 2, 3], [1]], 2)
            self.refused(SizeError, (1,), call, [[1, 2], [1]], 2)

    def test_order_of_looks(self):
        for call in CALLS:
            self.refused(SizeError, (31,), call, [[99999]] * 31, 99)
            self.refused(NumberError, (99999,), call, [[99999], [0] * 11], 1)
            self.refused(SizeError, (11,), call, [[0] * 11, [99999]], 1)
            self.refused(NumberError, (99,), call, [[1], [1, 2]], 99)

    def test_target(self):
        self.refused(SizeError, (11,), combination_of, [[1]], 1, [0] * 11)
        self.refused(SizeError, (11,), combination_of, [[1, 2]], 1, [99999] * 11)
        self.assertEqual(combination_of([[1] * 10], 10, [10 ** 4] * 10), [Ratio(10 ** 4)])
        self.assertEqual(combination_of([[1]], 1, [-10 ** 4]), [Ratio(-10 ** 4)])
        self.refused(NumberError, (10001,), combination_of, [[1]], 1, [1, 10001])
        self.refused(NumberError, (-10001,), combination_of, [[1, 1]], 1, [-10001])
        self.refused(NumberError, (11,), combination_of, [[1]], 11, [0] * 11)
        self.refused(SizeError, (2,), combination_of, [[1, 2]], 1, [0, 0, 0])
        self.refused(SizeError, (3,), combination_of, [[1]], 1, [0, 0, 0])
        self.refused(SizeError, (0,), combination_of, [[1]], 1, [])

    def test_arguments_stay(self):
        rows, target = [[2, 4], [1, 2], [3, 3]], [3, 3]
        rank_of_rows(rows, 2), direction_of(rows, 2), combination_of(rows, 2, target)
        self.assertEqual((rows, target), ([[2, 4], [1, 2], [3, 3]], [3, 3]))
        one = direction_of([[1, 1]], 2)
        one[0] = 9
        self.assertEqual(direction_of([[1, 1]], 2), [1, -1])
