"""Points 3 to 6, 10, 41 and 42 and the section nodearer/prices/judges.py."""

from fractions import Fraction
from random import Random

from nodearer.errors import NumberError, SizeError
from nodearer.exact.ratios import MOST
from nodearer.families.counts import Choice, Groups
from nodearer.families.webs import Web
from nodearer.prices.judges import judge_bound, judge_refusal, judge_shares
from nodearer.shares.sums import shares_of
from nodearer.wishes.books import Book
from nodearer.wishes.wishes import Wish
from tests.plans import (FAMILIES, HALF, KINDS, PlanCase, R, barrier_by, borne, floor_by, lowered, misfit, ranks_of,
                         ratio_for, ratios_for, some_book, some_prices, unfit_by)

PAIRS = Groups([0, 0, 1, 1], [1, 1])
ENDS = Book(Web(3, [(0, 1), (1, 2), (0, 2), (0, 1)]),
            [Wish([1, 0, 1, 1], most=1), Wish([1, 1, 0, 1], most=1), Wish([0, 1, 1, 0], most=1)])


class RefusalTest(PlanCase):
    def test_definition(self):
        random = Random(76)
        for kind in KINDS:
            seen = set()
            for family in FAMILIES:
                for _ in range(12):
                    book = lowered(random, some_book(random, family, borne(random, family), kind))
                    prices = some_prices(random, book, random.random() < 0.8)
                    fits = unfit_by(book, prices) is None
                    wanted = fits and floor_by(book, [0] * family.things, prices) > 0
                    self.assertIs(self.asked(judge_refusal, book, ratios_for(prices)), wanted)
                    seen.add((fits, wanted))
            self.assertEqual(seen - {(False, False)}, {(True, True), (True, False)})

    def test_no_shares_fit_a_refused_book(self):
        random = Random(77)
        for family in FAMILIES:
            shares = borne(random, family)
            book = some_book(random, family, shares)
            self.assertIs(judge_refusal(book, ratios_for(some_prices(random, book))), False)

    def test_told(self):
        # Four cable ends and three ports.
        self.assertIs(judge_refusal(ENDS, [R(1), R(1), R(1)]), True)
        self.assertIs(judge_refusal(ENDS, (R(1, 3), R(1, 3), R(1, 3))), True)
        self.assertIs(judge_refusal(ENDS, [R(1), R(1), R(0)]), False)
        self.assertIs(judge_refusal(ENDS, [R(0)] * 3), False)
        self.assertIs(judge_refusal(ENDS, [R(-1), R(-1), R(-1)]), False)
        two = Book(Choice(2, 1), [Wish([1, 1], most=0), Wish([1, 1], most=2)])
        self.assertIs(judge_refusal(two, [R(1), R(1)]), False)
        self.assertIs(judge_refusal(two, [R(1) + R(1, MOST - 1), R(1)]), True)
        self.assertIs(judge_refusal(two, [R(MOST), R(MOST - 1)]), True)
        self.assertIs(judge_refusal(two, [R(1, MOST), R(1, MOST - 1)]), False)
        self.assertIs(judge_refusal(two, [R(1, MOST - 1), R(1, MOST)]), True)
        least = Book(Choice(2, 1), [Wish([1, 1], least=2)])
        self.assertIs(judge_refusal(least, [R(-1)]), True)
        self.assertIs(judge_refusal(least, [R(1)]), False)
        self.assertIs(judge_refusal(Book(Choice(0, 0), [Wish([], most=-1)]), [R(1)]), True)
        self.assertIs(judge_refusal(Book(Choice(0, 0), []), []), False)

    def test_other_forms(self):
        good = [R(1), R(1), R(1)]
        for prices in (None, True, 3, "111", R(1), [], good[:2], good + [R(0)], [1, 1, 1], [R(1), R(1), 1],
                       [R(1), R(1), None], [R(1), R(1), True], [R(1), R(1), "1"], [R(1), R(1), [R(1)]], [good] * 3,
                       (good,), [R(1)] * 1000):
            self.assertIs(self.asked(judge_refusal, ENDS, prices), False)
            self.assertIs(self.asked(judge_bound, ENDS, [0] * 4, R(-100), prices), False)
        self.assertIs(judge_refusal(Book(Choice(0, 0), []), None), False)


class BoundTest(PlanCase):
    def test_definition(self):
        random = Random(78)
        for kind in KINDS:
            seen = set()
            for family in FAMILIES:
                for _ in range(8):
                    book = some_book(random, family, borne(random, family), kind)
                    prices = some_prices(random, book, random.random() < 0.8)
                    bound = random.choice([0, 3, 10 ** 6])
                    costs = [random.randint(-bound, bound) for _ in range(family.things)]
                    fits = unfit_by(book, prices) is None
                    floor = floor_by(book, costs, prices) if fits else Fraction(0)
                    for told in (floor, floor + Fraction(1, 10 ** 90), floor - Fraction(1, 7)):
                        wanted = fits and told <= floor
                        args = (book, costs, ratio_for(told), ratios_for(prices))
                        self.assertIs(self.asked(judge_bound, *args), wanted)
                        seen.add((fits, wanted))
            self.assertEqual(seen - {(False, False)}, {(True, True), (True, False)})

    def test_bounds_hold_for_fitting_shares(self):
        random = Random(79)
        for family in FAMILIES:
            for _ in range(10):
                shares = borne(random, family)
                book = some_book(random, family, shares)
                costs = [random.randint(-5, 5) for _ in shares]
                mean = sum([cost * share for cost, share in zip(costs, shares)], Fraction(0))
                prices = ratios_for(some_prices(random, book))
                self.assertIs(judge_bound(book, costs, ratio_for(mean + Fraction(1, 10 ** 30)), prices), False)

    def test_great_numbers(self):
        book = Book(Choice(2, 1), [Wish([1, 1], most=0), Wish([1, 1], most=2)])
        self.assertIs(judge_bound(book, [0, 0], R(MOST), [R(MOST), R(0)]), True)
        self.assertIs(judge_bound(book, [1, 1], R(MOST), [R(MOST), R(0)]), True)
        self.assertIs(judge_bound(book, [-1, 0], R(MOST), [R(MOST), R(0)]), False)
        self.assertIs(judge_bound(book, [0, 0], R(MOST), (R(MOST), R(1, MOST))), False)
        self.assertIs(judge_bound(book, [0, 0], R(-1, MOST), [R(1, MOST), R(1, MOST - 1)]), True)
        self.assertIs(judge_bound(book, (0, 0), R(0), [R(1, MOST), R(1, MOST - 1)]), False)
        # The floor is -1 / (MOST * (MOST - 1)), which is no ratio.
        self.assertIs(judge_bound(book, [0, 0], R(1, MOST), [R(2, MOST), R(1, MOST - 1)]), False)

    def test_costs_are_looked_at(self):
        far = 10 ** 6 + 1
        for more in ((R(0), [R(1)] * 3), (R(MOST), None), (R(-1), [])):
            self.refused(SizeError, (3,), judge_bound, ENDS, [far] * 3, *more)
            self.refused(SizeError, (5,), judge_bound, ENDS, [0] * 5, *more)
            self.refused(NumberError, (far,), judge_bound, ENDS, [0, far, -far, 0], *more)
            self.refused(NumberError, (-far,), judge_bound, ENDS, [-far, 0, 0, 0], *more)
        self.assertIs(judge_bound(ENDS, [10 ** 6, -10 ** 6, 0, 0], R(-10 ** 6), [R(0)] * 3), True)

    def test_no_things(self):
        book = Book(Choice(0, 0), [Wish([], most=-2)])
        self.assertIs(judge_bound(book, [], R(2, 3), [R(1, 3)]), True)
        self.assertIs(judge_bound(book, [], R(1), [R(1, 3)]), False)
        self.assertIs(judge_bound(Book(Choice(0, 0), []), (), R(0), ()), True)


class SharesTest(PlanCase):
    def test_definition(self):
        random = Random(80)
        for kind in KINDS:
            seen = set()
            for family in FAMILIES:
                ranks = ranks_of(family)
                for _ in range(6):
                    book = some_book(random, family, borne(random, family), kind)
                    chance = [Fraction(random.randint(-1, 4), 3) for _ in range(family.things)]
                    for shares in (borne(random, family), chance):
                        right = all(0 <= share <= 1 for share in shares)
                        wanted = right and barrier_by(ranks, shares) is None and misfit(book, shares) is None
                        self.assertIs(self.asked(judge_shares, book, ratios_for(shares)), wanted)
                        self.assertIs(judge_shares(book, tuple(ratios_for(shares))), wanted)
                        seen.add((right, wanted))
            self.assertEqual(seen, {(True, True), (True, False), (False, False)})

    def test_bounds(self):
        book, far = Book(Choice(2, 1), []), 10 ** 20
        self.assertIs(judge_shares(book, [R(1, far), R(far - 1, far)]), True)
        self.assertIs(judge_shares(book, [R(1, far + 1), R(far, far + 1)]), False)
        self.assertIs(judge_shares(book, [R(1, MOST), R(MOST - 1, MOST)]), False)
        self.assertIs(judge_shares(book, [R(2), R(-1)]), False)
        self.assertIs(judge_shares(book, [R(MOST), R(1 - MOST)]), False)
        self.assertIs(judge_shares(Book(Choice(0, 0), []), []), True)
        self.assertIs(judge_shares(Book(Choice(0, 0), [Wish([], least=1)]), ()), False)

    def test_other_forms(self):
        book = Book(PAIRS, [])
        self.assertIs(judge_shares(book, shares_of(4, [0, 2])), True)
        for shares in (None, True, 4, "1010", R(1), [], [HALF] * 3, [HALF] * 5, [1, 0, 1, 0], [R(1), R(0), R(1), 0],
                       [R(1), R(0), R(1), False], [R(1), R(0), True, R(0)], [R(1), R(0), R(1), None],
                       [R(1), R(0), R(1), "0"], [R(1), R(0), R(1), [R(0)]], [[HALF] * 4], [HALF] * 1000):
            self.assertIs(self.asked(judge_shares, book, shares), False)
