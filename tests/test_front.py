"""Points 3 to 5, 9, 10, 44 and 50 and the section nodearer/fronts/front.py."""

from random import Random

from nodearer.errors import NumberError, SizeError, ThingError
from nodearer.families.counts import Choice, Groups
from nodearer.fronts.front import Front
from nodearer.prices.settle import settle
from nodearer.wishes.books import Book
from nodearer.wishes.wishes import Wish
from tests.plans import FAMILIES, borne, lowered, some_book
from tests.settled import AnswerCase, some_costs

PAIRS = Groups([0, 0, 1, 1], [1, 1])


class FrontTest(AnswerCase):
    def test_fields(self):
        costs = [1, 2, 3, 4]
        book = Book(PAIRS, [])
        front = Front(book, costs)
        costs[0] = 7
        self.exact(front.costs, (1, 2, 3, 4))
        self.assertEqual(front.book, book)
        self.exact(Front(Book(Choice(0, 0), []), ()).costs, ())

    def test_solve(self):
        random = Random(105)
        seen = set()
        for family in FAMILIES:
            for _ in range(3):
                book = lowered(random, some_book(random, family, borne(random, family)))
                costs = some_costs(random, family.things)
                front = Front(book, costs)
                answer = self.asked(front.solve)
                value = self.answer_is_right(book, costs, answer)
                self.assertEqual(settle(book, costs).KIND, answer.KIND)
                seen.add(value is None)
        self.assertEqual(seen, {True, False})

    def test_words(self):
        front = Front(Book(PAIRS, [Wish([0] * 4, most=0)]), [0] * 4)
        self.exact(self.asked(front.words, [3, 0, 3]), ["thing 0", "thing 3"])
        self.exact(front.words(()), [])
        self.exact(front.words((2, 1, 0)), ["thing 0", "thing 1", "thing 2"])
        front.words([1]).append("more")
        self.exact(front.words([1]), ["thing 1"])

    def test_refusals(self):
        book = Book(PAIRS, [])
        self.refused(SizeError, (3,), Front, book, [10 ** 7] * 3)
        self.refused(SizeError, (5,), Front, book, (0,) * 5)
        self.refused(NumberError, (10 ** 6 + 1,), Front, book, [0, 10 ** 6 + 1, -10 ** 7, 0])
        self.refused(NumberError, (-10 ** 6 - 1,), Front, book, [0, 0, 0, -10 ** 6 - 1])
        front = Front(book, [0] * 4)
        self.refused(ThingError, (4,), front.words, [0, 4, -1])
        self.refused(ThingError, (-1,), front.words, (-1, 4))
        self.refused(SizeError, (61,), front.words, [9] * 61)
