"""Points 4, 5 and 16 for vectors."""

from itertools import product
from random import Random

from nodearer.errors import NumberError, SizeError
from nodearer.families.counts import Choice
from nodearer.families.vectors import Vectors
from tests.helpers import Case, greatest
from tests.test_elimination import rank


def is_free(rows, prime, lot):
    """No multipliers but zeros give the zero row."""
    if not prime:
        return rank([rows[at] for at in lot]) == len(lot)
    width = len(rows[0]) if rows else 0
    for times in product(range(prime), repeat=len(lot)):
        if any(times) and all(sum(k * rows[at][c] for k, at in zip(times, lot)) % prime == 0 for c in range(width)):
            return False
    return True


class VectorsTest(Case):
    def test_definition(self):
        random = Random(12)
        for prime in (0, 2, 3, 5, 7):
            for _ in range(20):
                width = random.randrange(4)
                rows = [[random.choice([0, 0, 1, 2, -1, 5, 1000, -993]) for _ in range(width)]
                        for _ in range(random.randrange(5))]
                family = Vectors(rows, prime)
                self.exact((family.rows, family.prime), (tuple(tuple(row) for row in rows), prime))
                self.family_is(family, len(rows), greatest(len(rows), lambda lot: is_free(rows, prime, lot)))

    def test_primes_differ(self):
        rows = [[1, 1, 0], [1, 0, 1], [0, 1, 1]]
        self.assertEqual([Vectors(rows, prime).full for prime in (0, 2, 3, 5, 7)], [3, 2, 3, 3, 3])
        self.assertEqual([Vectors([[prime]], prime).full for prime in (2, 3, 5, 7)], [0, 0, 0, 0])
        self.assertEqual(Vectors([[7], [5]], 7).dead, (0,))
        self.assertEqual(Vectors([[2, 4], [1, 2]]).full, 1)

    def test_edges(self):
        self.family_is(Vectors([]), 0, [()])
        self.family_is(Vectors([[], []]), 2, [()])
        self.family_is(Vectors([(), ()], 5), 2, [()])
        self.assertEqual(Vectors([]).prime, 0)
        self.assertEqual(Vectors([[]], prime=3).prime, 3)
        self.assertEqual(Vectors([[-1000] * 8] * 10).full, 1)
        powers = [[k ** at for at in range(3)] for k in range(10)]
        self.assertEqual(Vectors(powers), Choice(10, 3))
        self.exact(Vectors([[9, -4]], 3).rows, ((9, -4),))

    def test_great_entries(self):
        random = Random(13)
        rows = [[random.choice([1000, -1000, 999, -997]) for _ in range(8)] for _ in range(10)]
        family = Vectors(rows)
        for lot in ([0, 1, 2, 3, 4, 5, 6, 7], [2, 3, 4, 5, 6, 7, 8, 9], list(range(10)), [1, 4, 9]):
            self.exact(family.rank_of(lot), rank([rows[at] for at in lot]))

    def test_lists_are_copied(self):
        rows = [[1, 0], [0, 1]]
        family = Vectors(rows)
        rows[0][0] = 0
        rows.pop()
        self.exact(family.rows, ((1, 0), (0, 1)))
        self.assertEqual(family.full, 2)

    def test_refusals(self):
        self.refused(SizeError, (11,), Vectors, [[9999]] * 11, 4)
        self.refused(SizeError, (9,), Vectors, [[0], [9999] * 9], 4)
        self.refused(NumberError, (1001,), Vectors, [[0, 1001], [0] * 9], 4)
        self.refused(NumberError, (-1001,), Vectors, [[-1001]], 4)
        for prime in (1, 4, 6, 8, 11, -2, -1):
            self.refused(NumberError, (prime,), Vectors, [[1], [1, 2]], prime)
        self.refused(SizeError, (1,), Vectors, [[1, 2], [2, 3], [1], [1, 2, 3]])
        self.refused(SizeError, (0,), Vectors, [[1], []], 7)
        Vectors([[1000] * 8] * 10, 7)
