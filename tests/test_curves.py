"""Points 3 to 5, 10 and 47 and the section nodearer/prices/curves.py."""

from random import Random

from nodearer.errors import NumberError, SizeError, WishError
from nodearer.families.counts import Choice, Groups
from nodearer.prices.curves import curve
from nodearer.prices.settle import settle, value_of
from nodearer.wishes.books import Book
from nodearer.wishes.wishes import Wish
from tests.plans import FAMILIES, SQUARE, R, borne, frac, great_case, some_book
from tests.settled import AnswerCase

PAIRS = Groups([0, 0, 1, 1], [1, 1])


def with_most(book, at, number):
    wishes = list(book.wishes)
    wishes[at] = Wish(wishes[at].weights, most=number)
    return Book(book.family, wishes)


class CurveTest(AnswerCase):
    def check(self, book, costs, at):
        """The curve by the definition of the value; returns its entries as fractions."""
        entries = self.asked(curve, book, costs, at)
        self.assertIs(entries.__class__, list)
        self.assertEqual(len(entries), sum(book.wishes[at].weights) + 1)
        values = []
        for number, entry in enumerate(entries):
            other = with_most(book, at, number)
            value = self.answer_is_right(other, costs, settle(other, costs))
            self.assertEqual(None if entry is None else frac(entry), value)
            self.exact(entry, value_of(other, costs))
            values.append(value)
        told = [value for value in values if value is not None]
        self.assertEqual(values, [None] * (len(values) - len(told)) + told)
        falls = [one - two for one, two in zip(told, told[1:])]
        self.assertTrue(all(fall >= 0 for fall in falls))
        self.assertTrue(all(more >= less for more, less in zip(falls, falls[1:])))
        return values

    def test_definition(self):
        random = Random(99)
        seen, many = set(), 0
        for family in FAMILIES:
            for _ in range(6):
                lot = [thing for thing in range(family.things) if random.random() < 0.7]
                others = some_book(random, family, borne(random, family)).wishes[:2]
                at = random.randint(0, len(others))
                wish = Wish.of(family.things, lot, most=random.randint(-3, 10))
                book = Book(family, others[:at] + (wish,) + others[at:])
                costs = [random.randint(0, 9) - 5 * (thing in lot) for thing in range(family.things)]
                values = self.check(book, costs, at)
                seen |= {value is None for value in values}
                many += len(set(values)) > 2
        self.assertEqual(seen, {True, False})
        self.assertGreater(many, 10)

    def test_beside_weighted_wishes(self):
        book = Book(PAIRS, [Wish([3, 0, 0, 0], most=2), Wish.of(4, [1, 3], most=1)])
        self.exact(curve(book, [0, 0, 0, 0], 1), [None, R(0), R(0)])
        values = self.check(book, [-5, 0, -7, 0], 1)
        self.assertEqual(len(values), 3)

    def test_told(self):
        book = Book(Choice(3, 2), [Wish.of(3, [0, 1], most=1)])
        self.exact(curve(book, [0, 2, 9], 0), [None, R(9), R(2)])
        self.exact(curve(book, (5, 5, 1), 0), [None, R(6), R(6)])
        self.exact(curve(Book(Choice(3, 2), [Wish.of(3, [], most=-4)]), [0, 2, 9], 0), [R(2)])
        self.exact(curve(Book(Choice(3, 2), [Wish.of(3, [], most=-4), Wish([1] * 3, most=1)]), [0, 2, 9], 0), [None])
        self.exact(curve(Book(Choice(0, 0), [Wish([], most=7)]), [], 0), [R(0)])
        # The number that the wish has now has no effect.
        for most in (-1000, 0, 1000):
            book = Book(SQUARE, [Wish.of(5, [4], least=0), Wish.of(5, [0, 3, 4], most=most)])
            self.exact(curve(book, [0, 4, 4, 2, 1], 1), [None, R(8), R(5), R(3)])

    def test_great_cases(self):
        random = Random(100)
        for kind in ("most", "both"):
            book, _ = great_case(random, Choice(10, 5), kind)
            at = next((at for at, wish in enumerate(book.wishes) if wish.least is None), None)
            if at is not None:
                self.check(book, [random.randint(-10 ** 6, 10 ** 6) for _ in range(10)], at)
        full = Book(Choice(10, 5), [Wish([1] * 10, most=3)] + [Wish([0, 20, 3, 5, 7, 0, 11, 13, 17, 19], most=42)] * 4)
        self.assertEqual(self.check(full, [0] * 10, 0), [None] * 5 + [0] * 6)

    def test_refusals(self):
        wishes = [Wish.of(4, [0], most=1), Wish([0, 2, 0, 0], most=1), Wish([0, 0, 0, 20], most=3)]
        heavy = Book(PAIRS, wishes)
        plain = Book(PAIRS, [Wish.of(4, [0], least=1), Wish.of(4, [1], most=1, least=0), Wish.of(4, [2], most=0)])
        for at in (-1, 3, 4, -3, 10 ** 30, 1, 2):
            self.refused(WishError, (at,), curve, heavy, [0] * 4, at)
        for at in (-1, 3, 0, 1):
            self.refused(WishError, (at,), curve, plain, (0,) * 4, at)
        self.exact(curve(plain, [0] * 4, 2), [R(0), R(0)])
        self.refused(WishError, (0,), curve, Book(PAIRS, []), [0] * 4, 0)
        for book, at in ((heavy, 0), (heavy, 1), (plain, 0), (plain, -1)):
            self.refused(SizeError, (3,), curve, book, [10 ** 7] * 3, at)
            self.refused(SizeError, (5,), curve, book, (0,) * 5, at)
            self.refused(NumberError, (10 ** 6 + 1,), curve, book, [0, 10 ** 6 + 1, -10 ** 7, 0], at)
            self.refused(NumberError, (-10 ** 6 - 1,), curve, book, [0, 0, 0, -10 ** 6 - 1], at)
