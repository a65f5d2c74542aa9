"""Points 3 to 5, 7, 9, 10, 31 and 32 and the section nodearer/wishes/books.py."""

from fractions import Fraction
from random import Random

from nodearer.errors import SizeError, ThingError, WishError
from nodearer.families.counts import Choice, Groups
from nodearer.families.told import told_copy
from nodearer.shares.sums import shares_of
from nodearer.wishes.books import Book
from nodearer.wishes.wishes import Wish
from tests.helpers import subsets
from tests.plans import (FAMILIES, HALF, KINDS, SQUARE, PlanCase, R, barrier_by, borne, count_by, depth_by,
                         keepers_by, kind_by, misfit, missed_by, near_by, ranks_of, ratios_for, slack_by, some_book)

PLAIN = Wish([1, 1, 0], most=1)
HEAVY = Wish([3, 0, 2], most=4)


class MakingTest(PlanCase):
    def test_definition(self):
        random = Random(47)
        for family in FAMILIES:
            seen = set()
            for _ in range(12):
                some = some_book(random, family, borne(random, family))
                book = self.asked(Book, family, list(some.wishes))
                self.assertIs(book.family, family)
                self.assertEqual(book.wishes, some.wishes)
                self.exact((book.deep, book.kind), (depth_by(book), kind_by(book)))
                self.exact([book.slack(at) for at in range(len(book.wishes))],
                           [slack_by(book, at) for at in range(len(book.wishes))])
                near, keep = near_by(book), keepers_by(book)
                for lot in subsets(family.things)[::3]:
                    missed = [missed_by(wish, count_by(wish, lot)) for wish in book.wishes]
                    self.exact(self.asked(book.missed, list(lot)[::-1] * 2), missed)
                    self.assertIs(self.asked(book.keeps, list(lot)[::-1] * 2), lot in keep)
                    self.assertIs(self.asked(book.is_near, list(lot)[::-1] * 2), lot in near)
                for base in family.bases():
                    self.assertIs(book.keeps(base), base in keep)
                    self.assertIs(book.is_near(base), base in near)
                    seen.add((base in keep, base in near))
            if family.full > 2 and len(list(family.bases())) > 8:
                self.assertEqual(seen, {(True, True), (False, True), (False, False)})

    def test_kinds_and_slacks(self):
        family = Choice(3, 2)
        least, both = Wish([1, 1, 0], least=1), Wish([0, 1, 1], most=1, least=1)
        for wishes, deep, kind, slacks in (
                ([], 0, "most", []), ([PLAIN], 1, "most", [0]), ([PLAIN, PLAIN], 2, "most", [1, 1]),
                ([PLAIN] * 5, 5, "most", [4] * 5), ([least], 1, "least", [0]), ([least, least], 2, "least", [1, 1]),
                ([both], 1, "both", [0]), ([both, both], 2, "both", [2, 2]), ([PLAIN, least], 2, "both", [2, 2]),
                ([least, both, PLAIN], 3, "both", [4] * 3), ([both] * 5, 5, "both", [8] * 5),
                ([HEAVY], 1, "weighted", [3]), ([PLAIN, HEAVY], 2, "weighted", [2, 6]),
                ([HEAVY, Wish([0, 0, 0], most=0)], 1, "weighted", [3, 1]),
                ([Wish([0, 0, 0], most=0)], 0, "most", [0]), ([Wish([0, 0, 0], most=0, least=0)], 0, "both", [0]),
                ([Wish([0, 0, 2], most=9), PLAIN, Wish([0, 20, 0], most=9)], 2, "weighted", [4, 2, 40])):
            book = Book(family, tuple(wishes))
            self.exact((book.deep, book.kind), (deep, kind))
            self.exact([book.slack(at) for at in range(len(wishes))], slacks)

    def test_no_things(self):
        book = Book(Choice(0, 0), [Wish([], most=-1), Wish([], least=1)])
        self.exact((book.deep, book.kind, book.slack(0), book.slack(1)), (0, "both", 0, 0))
        self.exact((book.missed([]), book.keeps([]), book.is_near([])), ([1, 1], False, False))
        self.assertIs(book.fits_shares([]), False)
        self.assertIs(Book(Choice(0, 0), [Wish([], most=0)]).fits_shares([]), True)
        self.assertIs(Book(Choice(0, 0), []).keeps(()), True)

    def test_told(self):
        book = Book(Groups([0, 0, 1, 1], [1, 1]), [Wish.of(4, [0, 2], most=0), Wish.of(4, [1, 2], most=1)])
        self.exact(book.missed([2, 0, 2]), [2, 0])
        self.exact(book.missed([]), [0, 0])
        self.exact([book.is_near(lot) for lot in ([0, 2], [1, 2], [1, 3], [0, 1], [1])],
                   [False, True, True, False, False])
        self.exact([book.keeps(lot) for lot in ([0, 2], [1, 2], [1, 3], [], [1])], [False, False, True, False, False])

    def test_later_changes(self):
        wishes = [PLAIN]
        book = Book(Choice(3, 2), wishes)
        wishes.append(HEAVY)
        book.missed([0]).clear()
        self.exact((len(book.wishes), book.kind, book.missed([0])), (1, "most", [0]))

    def test_equal(self):
        one = Book(Choice(3, 2), [PLAIN, HEAVY])
        self.assertIs(one == Book(told_copy(Choice(3, 2)), (Wish.of(3, [1, 0], most=1), HEAVY)), True)
        for other in (Book(Choice(3, 1), [PLAIN, HEAVY]), Book(Choice(3, 2), [HEAVY, PLAIN]),
                      Book(Choice(3, 2), [PLAIN]), Book(Choice(3, 2), [PLAIN, Wish([3, 0, 2], most=5)]),
                      Book(Choice(3, 2), []), None, 3, "book", Choice(3, 2), [PLAIN, HEAVY], R(1)):
            self.assertIs(one == other, False)


class RefusalTest(PlanCase):
    def test_making(self):
        short, least = Wish([1, 0], most=1), Wish([1, 1, 0], least=1)
        self.refused(SizeError, (6,), Book, Choice(3, 2), [short] * 6)
        self.assertEqual(len(Book(Choice(3, 2), [PLAIN] * 5).wishes), 5)
        self.refused(SizeError, (2,), Book, Choice(3, 2), [least, HEAVY, short, Wish([], most=1)])
        self.refused(SizeError, (4,), Book, Choice(3, 2), [Wish([0] * 4, most=1), short])
        self.refused(WishError, (1,), Book, Choice(3, 2), [HEAVY, least, least])
        self.refused(WishError, (0,), Book, Choice(3, 2), [least, PLAIN, HEAVY])
        self.refused(WishError, (1,), Book, Choice(3, 2), [PLAIN, Wish([0, 0, 0], most=1, least=1), HEAVY])

    def test_indexes(self):
        book = Book(Choice(3, 2), [PLAIN, HEAVY])
        for at in (-1, -2, 2, 5, 10 ** 30):
            self.refused(WishError, (at,), book.slack, at)
        self.refused(WishError, (0,), Book(Choice(3, 2), []).slack, 0)

    def test_lots(self):
        book = Book(Choice(3, 2), [PLAIN, HEAVY])
        for call in (book.missed, book.keeps, book.is_near):
            self.refused(ThingError, (3,), call, [0, 3, -1])
            self.refused(ThingError, (-1,), call, [-1, 3])
            self.refused(SizeError, (61,), call, [9] * 61)
            call([0, 1] * 30)


class FittingTest(PlanCase):
    def test_definition(self):
        random = Random(48)
        for kind in KINDS:
            seen = set()
            for family in FAMILIES:
                ranks = ranks_of(family)
                for _ in range(8):
                    book = some_book(random, family, borne(random, family), kind)
                    chance = [Fraction(random.randrange(3), 2) for _ in range(family.things)]
                    for shares in (borne(random, family), borne(random, family), chance):
                        wanted = barrier_by(ranks, shares) is None and misfit(book, shares) is None
                        self.assertIs(self.asked(book.fits_shares, ratios_for(shares)), wanted)
                        seen.add((wanted, barrier_by(ranks, shares) is None))
            self.assertEqual(seen, {(True, True), (False, True), (False, False)})

    def test_told(self):
        book = Book(Choice(3, 2), [PLAIN, HEAVY])
        self.assertIs(book.fits_shares((HALF, HALF, R(1))), True)
        self.assertIs(book.fits_shares([HALF, R(2, 3), R(5, 6)]), False)
        self.assertIs(book.fits_shares([R(2, 3), R(1, 3), R(1)]), True)
        self.assertIs(book.fits_shares([R(2, 3) + R(1, 10 ** 19), R(1, 3) - R(1, 10 ** 19), R(1)]), False)
        self.assertIs(book.fits_shares([HALF, HALF, HALF]), False)
        self.assertIs(Book(SQUARE, []).fits_shares(shares_of(5, [0, 1, 4])), False)
        least = Book(Choice(3, 2), [Wish([1, 1, 0], least=1, most=1)])
        self.assertIs(least.fits_shares([HALF, R(1, 4), R(1)]), False)
        self.assertIs(least.fits_shares([R(1), HALF, HALF]), False)
        self.assertIs(least.fits_shares([R(3, 4), R(1, 4), R(1)]), True)

    def test_refusals(self):
        self.shares_are_looked_at(Book(Choice(3, 2), [PLAIN, HEAVY]).fits_shares, 3)
