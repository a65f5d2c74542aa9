"""Points 3 to 5, 10, 24 and 42 to 45 and the section nodearer/prices/settle.py."""

from fractions import Fraction
from random import Random

from nodearer.errors import NumberError, SizeError
from nodearer.exact.programs import solve_program
from nodearer.families.counts import Choice, Groups
from nodearer.families.seats import Seats
from nodearer.families.told import Told, told_copy
from nodearer.prices.answers import Refusal, Settlement
from nodearer.prices.settle import settle, value_of
from nodearer.wishes.books import Book
from nodearer.wishes.moved import mirror_book, side_book
from nodearer.wishes.wishes import Wish
from tests.plans import (FAMILIES, KINDS, SQUARE, R, borne, count_by, frac, great_case, lowered, ratio_for, some_book)
from tests.settled import AnswerCase, cost_by, some_costs

PAIRS = Groups([0, 0, 1, 1], [1, 1])


def fraction_of(value):
    return None if value is None else frac(value)


def some_case(random, family, kind=None):
    """A book, which may be refused, and costs."""
    book = some_book(random, family, borne(random, family), kind)
    return (lowered(random, book) if random.random() < 0.5 else book), some_costs(random, family.things)


def program_value(book, costs):
    """The value by the small program over all bases, which must be few."""
    bases = list(book.family.bases())
    bounds = [(wish, 1, wish.most) for wish in book.wishes if wish.most is not None]
    bounds += [(wish, -1, wish.least) for wish in book.wishes if wish.least is not None]
    rows = [[1] * len(bases) + [0] * len(bounds)]
    rows += [[count_by(wish, lot) for lot in bases] + [sign * (at == other) for other in range(len(bounds))]
             for at, (wish, sign, _) in enumerate(bounds)]
    prices = [cost_by(costs, lot) for lot in bases] + [0] * len(bounds)
    answer = solve_program(rows, [1] + [number for _, _, number in bounds], prices)
    if answer[0] == "none":
        return None
    return sum([price * frac(entry) for price, entry in zip(prices, answer[1])], Fraction(0))


def moved_things(random, book, costs):
    """The same book and costs with the things in another order."""
    things = book.family.things
    order = random.sample(range(things), things)
    place = {thing: at for at, thing in enumerate(order)}
    family = Told(things, [[place[thing] for thing in lot] for lot in book.family.bases()])
    wishes = [Wish([wish.weights[thing] for thing in order], most=wish.most, least=wish.least) for wish in book.wishes]
    return Book(family, wishes), [costs[thing] for thing in order]


class SettleTest(AnswerCase):
    def value(self, book, costs):
        """The value, after a look at all that is promised of it."""
        answer = self.asked(settle, book, costs)
        value = self.answer_is_right(book, costs, answer)
        told = self.asked(value_of, book, costs)
        self.exact(told, None if value is None else ratio_for(value))
        return value

    def test_definition(self):
        random = Random(81)
        for kind in KINDS:
            seen = {}
            for family in FAMILIES:
                for _ in range(6):
                    book, costs = some_case(random, family, kind)
                    value = self.value(book, costs)
                    seen[value is None] = seen.get(value is None, 0) + 1
            self.assertGreater(min(seen[True], seen[False]), 10, kind)

    def test_small_programs(self):
        random = Random(82)
        checked = 0
        for family in FAMILIES:
            for _ in range(6):
                book, costs = some_case(random, family)
                many = sum((wish.most is not None) + (wish.least is not None) for wish in book.wishes)
                low = all(abs(cost) < 1000 for cost in costs)
                if low and many <= 7 and many + len(list(family.bases())) <= 40:
                    self.assertEqual(fraction_of(value_of(book, costs)), program_value(book, costs))
                    checked += 1
        self.assertGreater(checked, 40)

    def test_great_cases(self):
        random = Random(83)
        for kind in KINDS:
            for family in (Choice(10, 5), Groups([0] * 5 + [1] * 5, [2, 3]), Seats(5, [[0, 1, 2, 3, 4]] * 10)):
                book, _ = great_case(random, family, kind)
                for costs in ([0] * 10, some_costs(random, 10), [10 ** 6 - at for at in range(10)]):
                    self.value(book, costs)
                    self.value(lowered(random, book), costs)

    def test_heavy_weights(self):
        random = Random(84)
        for _ in range(6):
            weights = [[random.randint(0, 20) for _ in range(10)] for _ in range(5)]
            for most in (40, 44, 50):
                book = Book(Choice(10, 5), [Wish(row, most=most) for row in weights])
                self.value(book, [random.randint(-10 ** 6, 10 ** 6) for _ in range(10)])

    def test_told(self):
        half = Book(PAIRS, [Wish.of(4, [0, 2], most=1), Wish.of(4, [1, 2], most=1)])
        self.exact(value_of(half, [0, 0, 0, 0]), R(0))
        self.assertEqual(settle(half, (0, 9, 0, 9)).KIND, "settlement")
        self.exact(value_of(half, (0, 2, 0, 3)), R(5, 2))
        mean = settle(Book(PAIRS, [Wish([2, 0, 0, 0], most=1)]), [0, 1, 0, 0])
        self.exact((mean.value, mean.prices), (R(1, 2), (R(1, 2),)))
        least = settle(Book(Choice(2, 1), [Wish([1, 1], least=2)]), [0, 0])
        self.assertEqual(least.KIND, "refusal")
        self.assertTrue(frac(least.prices[0]) < 0)
        self.assertIsNone(value_of(Book(Choice(2, 1), [Wish([1, 1], least=2)]), (0, 0)))

    def test_no_wishes(self):
        """The value is the cost of the least base."""
        random = Random(85)
        for family in FAMILIES:
            book, costs = Book(family, []), some_costs(random, family.things)
            self.assertEqual(self.value(book, costs), min(cost_by(costs, lot) for lot in family.bases()))
            self.exact(settle(book, costs).prices, ())

    def test_no_things(self):
        empty = Choice(0, 0)
        for wishes in ([], [Wish([], most=0)], [Wish([], least=0, most=3)] * 5, [Wish([], least=-1)]):
            answer = settle(Book(empty, wishes), [])
            self.exact((answer.KIND, answer.value, answer.plan, len(answer.mixture), len(answer.near)),
                       ("settlement", R(0), (), 1, 1))
            self.assertEqual(self.value(Book(empty, wishes), ()), 0)
        for wishes in ([Wish([], most=-1)], [Wish([], most=0), Wish([], least=1)]):
            self.assertIsNone(self.value(Book(empty, wishes), []))

    def test_depth_one(self):
        """Apart wishes of one kind each: the plan keeps them, and no base that keeps them is cheaper."""
        random = Random(86)
        for family in FAMILIES:
            for _ in range(4):
                base = random.choice(list(family.bases()))
                owner = [random.randrange(4) for _ in range(family.things)]
                wishes = []
                for mark in range(3):
                    lot = [thing for thing in range(family.things) if owner[thing] == mark]
                    count = len(set(lot) & set(base))
                    most, least = random.choice([(count, None), (None, count), (count, count), (count + 1, count)])
                    wishes.append(Wish.of(family.things, lot, most=most, least=least))
                book, costs = Book(family, wishes), some_costs(random, family.things)
                self.assertLessEqual(book.deep, 1)
                self.assertIsNotNone(self.value(book, costs))
                self.assertTrue(book.keeps(settle(book, costs).plan))

    def test_refusals(self):
        for book in (Book(PAIRS, []), Book(PAIRS, [Wish([1] * 4, most=0)])):
            for call in (settle, value_of):
                self.refused(SizeError, (3,), call, book, [10 ** 7] * 3)
                self.refused(SizeError, (5,), call, book, (0,) * 5)
                self.refused(NumberError, (10 ** 6 + 1,), call, book, [0, 10 ** 6 + 1, -10 ** 7, 0])
                self.refused(NumberError, (-10 ** 6 - 1,), call, book, [0, 0, 0, -10 ** 6 - 1])
        book, far = Book(PAIRS, []), 10 ** 6
        self.exact(value_of(book, [far, far, -far, far]), R(0))

    def test_kinds_of_answers(self):
        answer = settle(Book(PAIRS, [Wish.of(4, [0], most=1)]), [0] * 4)
        self.assertIs(answer.__class__, Settlement)
        self.assertIs(settle(Book(PAIRS, [Wish.of(4, [0], most=-1)]), [0] * 4).__class__, Refusal)


class RelationsTest(AnswerCase):
    def cases(self, seed, many=3):
        random = Random(seed)
        for family in FAMILIES:
            for _ in range(many):
                yield random, *some_case(random, family)

    def test_mirror(self):
        for _, book, costs in self.cases(87):
            if book.kind != "weighted":
                value = fraction_of(value_of(book, costs))
                other = fraction_of(value_of(mirror_book(book), [-cost for cost in costs]))
                self.assertEqual(other, None if value is None else value - sum(costs))

    def test_side_by_side(self):
        random = Random(88)
        small = [family for family in FAMILIES if family.things <= 5]
        seen = set()
        for _ in range(60):
            parts = [some_case(random, random.choice(small)) for _ in range(2)]
            kinds = {book.kind == "weighted" for book, _ in parts}
            if sum(len(book.wishes) for book, _ in parts) > 5 or len(kinds) > 1:
                continue
            values = [fraction_of(value_of(book, costs)) for book, costs in parts]
            both = value_of(side_book(parts[0][0], parts[1][0]), parts[0][1] + parts[1][1])
            self.assertEqual(fraction_of(both), None if None in values else sum(values))
            seen.add(None in values)
        self.assertEqual(seen, {True, False})

    def test_more_wishes_and_other_numbers(self):
        for random, book, costs in self.cases(89):
            value = fraction_of(value_of(book, costs))
            if value is None or not book.wishes:
                continue
            for at, wish in enumerate(book.wishes):
                fewer = Book(book.family, book.wishes[:at] + book.wishes[at + 1:])
                self.assertLessEqual(fraction_of(value_of(fewer, costs)), value)
                if wish.most is not None:
                    wider = Wish(wish.weights, most=wish.most + random.randint(1, 3), least=wish.least)
                    wishes = book.wishes[:at] + (wider,) + book.wishes[at + 1:]
                    self.assertLessEqual(fraction_of(value_of(Book(book.family, wishes), costs)), value)
            doubled = Book(book.family, (book.wishes + book.wishes)[:5])
            self.assertEqual(fraction_of(value_of(doubled, costs)), value)

    def test_other_tellings(self):
        for random, book, costs in self.cases(90):
            value = fraction_of(value_of(book, costs))
            told = Book(told_copy(book.family), book.wishes)
            self.assertEqual(fraction_of(value_of(told, costs)), value)
            self.assertTrue(settle(book, costs).holds(told, costs))
            self.assertEqual(fraction_of(value_of(*moved_things(random, book, costs))), value)

    def test_cost_of_all_bases(self):
        """The same cost more for each thing costs each base the same."""
        for _, book, costs in self.cases(91, 1):
            value = fraction_of(value_of(book, costs))
            more = [cost // 2 + 5 for cost in costs]
            other = fraction_of(value_of(book, [cost // 2 for cost in costs]))
            self.assertEqual(value is None, other is None)
            if other is not None:
                self.assertEqual(fraction_of(value_of(book, more)), other + 5 * book.family.full)

    def test_square(self):
        """Places of a square with a diagonal, with ports at the ends of the diagonal."""
        book = Book(SQUARE, [Wish.of(5, [0, 3, 4], most=1), Wish.of(5, [1, 2, 4], most=2)])
        self.exact(value_of(book, [1, 2, 3, 4, 0]), R(6))
        self.exact(settle(book, [1, 2, 3, 4, 0]).plan, (0, 1, 2))
