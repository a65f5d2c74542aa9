"""Points 3 to 6, 10, 32 and 40 and the section nodearer/walks/near.py."""

from fractions import Fraction
from random import Random

from nodearer.errors import NumberError, ShareError, SizeError, WishError
from nodearer.families.counts import Choice, Groups
from nodearer.shares.mixtures import Mixture
from nodearer.shares.sums import shares_of
from nodearer.walks.near import judge_near, near_base, near_mixture
from nodearer.wishes.books import Book
from nodearer.wishes.wishes import Wish
from tests.plans import (FAMILIES, HALF, KINDS, SQUARE, PlanCase, R, borne, fracs, great_case, is_mixture_of, near_by,
                         ratio_for, ratios_for, shares_by, some_book)

PAIRS = Groups([0, 0, 1, 1], [1, 1])


class NearTest(PlanCase):
    def check(self, random, book, shares):
        told, near = ratios_for(shares), near_by(book)
        mixture = self.asked(near_mixture, book, told)
        self.assertIs(mixture.__class__, Mixture)
        self.exact(mixture.things, book.family.things)
        self.assertTrue(is_mixture_of(mixture, near, shares))
        self.assertLessEqual(len(mixture), max(1, book.family.things))
        self.assertLessEqual(max(weight.den for weight, _ in mixture), 10 ** 50)
        self.assertIs(judge_near(book, told, mixture), True)
        for bound in (0, 3, 10 ** 6):
            costs = [random.randint(-bound, bound) for _ in shares]
            base = self.asked(near_base, book, told, costs)
            self.assertIn(base, near)
            self.exact(base, tuple(sorted(base)))
            mean = sum([cost * share for cost, share in zip(costs, shares)], Fraction(0))
            self.assertLessEqual(sum(costs[thing] for thing in base), mean)
        return len(near) < len(list(book.family.bases()))

    def test_chance(self):
        random = Random(72)
        for kind in KINDS:
            seen = set()
            for family in FAMILIES:
                for _ in range(6):
                    shares = borne(random, family)
                    seen.add(self.check(random, some_book(random, family, shares, kind), shares))
            self.assertEqual(seen, {True, False})

    def test_great_cases(self):
        random = Random(73)
        for kind in KINDS:
            for family in (Choice(10, 5), Groups([0] * 5 + [1] * 5, [2, 3])):
                book, shares = great_case(random, family, kind)
                self.check(random, book, shares)

    def test_told(self):
        book = Book(PAIRS, [Wish.of(4, [0, 2], most=1), Wish.of(4, [0, 2], most=1, least=1)])
        self.exact(near_base(Book(PAIRS, [Wish.of(4, [0, 2], most=1, least=1)]), [HALF] * 4, [0, 5, 0, 6]), (1, 2))
        self.exact(near_base(book, (HALF,) * 4, (-9, 0, -9, 0)), (0, 2))
        self.exact(near_mixture(Book(PAIRS, []), shares_of(4, [1, 2])).pairs, ((R(1), (1, 2)),))
        narrow = near_mixture(Book(PAIRS, [Wish.of(4, [0, 2], most=1, least=1)]), [R(1, 3), R(2, 3), R(2, 3), R(1, 3)])
        self.exact(narrow.pairs, ((R(1, 3), (0, 3)), (R(2, 3), (1, 2))))
        self.exact(near_mixture(Book(Choice(0, 0), []), []).pairs, ((R(1), ()),))
        self.exact(near_base(Book(Choice(0, 0), [Wish([], most=0)]), (), ()), ())

    def test_refusals(self):
        book = Book(SQUARE, [Wish([1] * 5, most=3), Wish([1, 0, 0, 0, 0], most=0), Wish([0] * 5, least=1)])
        for call in (near_mixture, lambda some, shares: near_base(some, shares, [0] * 5)):
            self.shares_are_looked_at(lambda shares: call(book, shares), 5)
            self.refused(ShareError, ((0, 1, 4),), call, book, shares_of(5, [0, 1, 4]))
            self.refused(ShareError, ((0, 1, 2, 3, 4),), call, book, [R(0)] * 5)
            self.refused(WishError, (1,), call, book, shares_of(5, [0, 1, 2]))
            self.refused(WishError, (2,), call, book, tuple(shares_of(5, [1, 2, 3])))

    def test_costs_are_looked_at(self):
        book = Book(SQUARE, [Wish([1] * 5, most=2)])
        for shares in ([R(0)] * 5, shares_of(5, [0, 1, 2])):
            self.refused(SizeError, (4,), near_base, book, shares, [10 ** 7] * 4)
            self.refused(SizeError, (6,), near_base, book, shares, [0] * 6)
            self.refused(NumberError, (10 ** 6 + 1,), near_base, book, shares, [0, 10 ** 6 + 1, -10 ** 7, 0, 0])
            self.refused(NumberError, (-10 ** 6 - 1,), near_base, book, shares, (-10 ** 6 - 1, 10 ** 7, 0, 0, 0))
        self.shares_are_looked_at(lambda told: near_base(book, told, []), 5)
        far = 10 ** 6
        self.exact(near_base(Book(SQUARE, []), shares_of(5, [0, 1, 2]), [-far] * 3 + [far] * 2), (0, 1, 2))


class JudgeTest(PlanCase):
    BOOK = Book(PAIRS, [Wish.of(4, [0, 2], most=1, least=0), Wish.of(4, [1], most=1)])
    SHARES = [HALF, HALF, HALF, HALF]

    def judge(self, pairs, wanted, things=4):
        mixture = Mixture(things, pairs)
        self.assertIs(self.asked(judge_near, self.BOOK, self.SHARES, mixture), wanted)
        self.assertIs(judge_near(self.BOOK, tuple(self.SHARES), mixture), wanted)

    def test_judged(self):
        self.exact((self.BOOK.kind, self.BOOK.deep), ("both", 1))
        self.judge([(HALF, [0, 3]), (HALF, [1, 2])], True)
        self.judge([(HALF, [0, 2]), (HALF, [1, 3])], False)
        self.judge([(R(1, 4), [0, 3]), (R(3, 4), [1, 2])], False)
        self.judge([(HALF, [0, 1, 3]), (HALF, [2])], False)
        self.judge([(R(1), [0, 3])], False)
        for things in (0, 3, 5, 10):
            self.judge([(HALF, [0, 3]), (HALF, [1, 2])] if things > 3 else [(R(1), [])], False, things)
        for other in (None, True, 4, "mixture", R(1), [], [(HALF, [0, 3]), (HALF, [1, 2])]):
            self.assertIs(judge_near(self.BOOK, self.SHARES, other), False)

    def test_number_of_lots(self):
        # At most as many lots as things, also if more would be right otherwise.
        bases = [(0, 1), (0, 2), (0, 3), (1, 2), (1, 3), (2, 3)]
        book = Book(Choice(4, 2), [])
        shares = [HALF] * 4
        self.assertIs(judge_near(book, shares, Mixture(4, [(R(1, 6), lot) for lot in bases])), False)
        four = [(R(1, 4), lot) for lot in ((0, 1), (1, 2), (2, 3), (0, 3))]
        self.assertIs(judge_near(book, shares, Mixture(4, four)), True)
        five = [(R(1, 8), (0, 1)), (R(1, 8), (2, 3))] + [(R(1, 4), lot) for lot in ((0, 2), (1, 3))]
        five += [(R(1, 8), (0, 3)), (R(1, 8), (1, 2))]
        self.assertIs(judge_near(book, shares, Mixture(4, five)), False)
        exactly = [(R(1, 4), (0, 1)), (R(1, 4), (2, 3)), (R(1, 8), (0, 2)), (R(1, 8), (1, 3)), (R(1, 4), (0, 3))]
        self.assertEqual(len(exactly), 5)
        shares = ratios_for(shares_by(4, {lot: Fraction(weight.num, weight.den) for weight, lot in exactly}))
        self.assertIs(judge_near(book, shares, Mixture(4, exactly)), False)
        self.assertIs(judge_near(book, shares, Mixture(4, exactly).trimmed()), True)
        empty = Book(Choice(0, 0), [])
        self.assertIs(judge_near(empty, [], Mixture(0, [(R(1), [])])), True)
        self.assertIs(judge_near(empty, [], Mixture(1, [(R(1), [])])), False)
        self.assertIs(judge_near(Book(Choice(0, 0), [Wish([], least=1)]), [], Mixture(0, [(R(1), [])])), False)

    def test_shares_need_not_fit(self):
        """The shares are beyond a wish, but its slack lets the base."""
        wishes = [Wish.of(4, [0, 2], most=1)] * 2
        book = Book(PAIRS, wishes)
        self.assertIs(book.fits_shares(shares_of(4, [0, 2])), False)
        self.assertIs(judge_near(book, shares_of(4, [0, 2]), Mixture(4, [(R(1), [0, 2])])), True)
        self.assertIs(judge_near(book, shares_of(4, [0, 1]), Mixture(4, [(R(1), [0, 1])])), False)
        self.assertIs(judge_near(book, [R(0)] * 4, Mixture(4, [(R(1), [0, 2])])), False)

    def test_refusals(self):
        mixture = Mixture(3, [(R(1), [])])
        self.shares_are_looked_at(lambda shares: judge_near(self.BOOK, shares, mixture), 4)

    def test_chance(self):
        random = Random(74)
        seen = set()
        for family in FAMILIES:
            bases = list(family.bases())
            for _ in range(20):
                lots = random.sample(bases, random.randint(1, min(len(bases), family.things + 2)))
                marks = [random.randint(1, 9) for _ in lots]
                table = {lot: Fraction(mark, sum(marks)) for lot, mark in zip(lots, marks)}
                shares = shares_by(family.things, table)
                book = some_book(random, family, shares)
                near = near_by(book)
                wanted = set(lots) <= set(near) and len(lots) <= max(1, family.things)
                seen.add((set(lots) <= set(near), len(lots) <= max(1, family.things)))
                mixture = Mixture(family.things, [(ratio_for(table[lot]), lot) for lot in lots])
                self.assertIs(judge_near(book, ratios_for(shares), mixture), wanted)
                self.assertEqual(fracs(mixture.shares), shares)
        self.assertEqual(len(seen), 4)
