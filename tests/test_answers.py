"""Points 3 to 6, 10, 24, 41, 42 and 44 and the section nodearer/prices/answers.py."""

from fractions import Fraction
from random import Random

from nodearer.errors import LotError, NumberError, SizeError
from nodearer.exact.ratios import MOST
from nodearer.families.counts import Choice, Groups
from nodearer.prices.answers import Answer, Refusal, Settlement
from nodearer.prices.settle import settle
from nodearer.shares.mixtures import Mixture
from nodearer.walks.near import near_mixture
from nodearer.wishes.books import Book
from nodearer.wishes.wishes import Wish
from tests.plans import (FAMILIES, HALF, KINDS, R, borne, fracs, lowered, mixed, ratio_for, ratios_for, shares_by,
                         some_book, some_prices, whole_of)
from tests.settled import AnswerCase, cost_by, mean_cost, refuses_by, settles_by, some_costs

PAIRS = Groups([0, 0, 1, 1], [1, 1])
# Things 0 and 2 are cheap, and each of two wishes lets one of them only half of the time.
BOOK = Book(PAIRS, [Wish([2, 0, 0, 0], most=1), Wish([0, 0, 2, 0], most=1)])
COSTS = [0, 2, 0, 4]
MIXTURE = Mixture(4, [(HALF, [0, 3]), (HALF, [1, 2])])
NEAR = Mixture(4, [(HALF, [0, 2]), (HALF, [1, 3])])
SINGLE = Mixture(4, [(R(1), [0, 2])])
PARTS = {"mixture": MIXTURE, "prices": [R(1), R(2)], "value": R(3), "near": NEAR, "plan": [0, 2]}


def settlement(**other):
    parts = {**PARTS, **other}
    return Settlement(parts["mixture"], parts["prices"], parts["value"], parts["near"], parts["plan"])


def far_mixture(random, bases, whole):
    """A mixture of these bases whose weights have this least common denominator."""
    cuts = sorted({random.randrange(1, whole) for _ in bases[1:]})
    assert len(cuts) == len(bases) - 1
    parts = [high - low for low, high in zip([0] + cuts, cuts + [whole])]
    return Mixture(10, [(R(part, whole), base) for part, base in zip(parts, bases)])


class FormTest(AnswerCase):
    def test_kinds(self):
        self.assertEqual((Answer.KIND, Refusal.KIND, Settlement.KIND), ("open", "refusal", "settlement"))
        self.assertEqual((Refusal([]).KIND, settlement().KIND), ("refusal", "settlement"))
        self.assertTrue(issubclass(Refusal, Answer) and issubclass(Settlement, Answer))

    def test_fields(self):
        prices, plan = [R(1), R(2)], [0, 2]
        refusal = Refusal(prices)
        told = settlement(prices=prices, plan=plan)
        prices.append(R(3))
        plan.append(3)
        self.exact(refusal.prices, (R(1), R(2)))
        self.exact((told.prices, told.plan, told.value), ((R(1), R(2)), (0, 2), R(3)))
        self.assertEqual((told.mixture, told.near), (MIXTURE, NEAR))
        self.exact(Refusal((R(1),) * 5).prices, (R(1),) * 5)
        self.exact(settlement(plan=tuple(range(10)), prices=()).plan, tuple(range(10)))
        self.exact((settlement(plan=[]).plan, settlement(plan=[9]).plan), ((), (9,)))

    def test_refusals(self):
        self.refused(SizeError, (6,), Refusal, [R(0)] * 6)
        self.refused(SizeError, (7,), settlement, prices=[R(0)] * 7, plan=[1, 0])
        self.refused(SizeError, (7,), settlement, prices=[R(0)] * 7, plan=[0] * 11)
        self.refused(SizeError, (11,), settlement, plan=[20] * 11)
        self.refused(NumberError, (10,), settlement, plan=[1, 0, 10, -1])
        self.refused(NumberError, (-1,), settlement, plan=(-1, 10))
        self.refused(NumberError, (10 ** 30,), settlement, plan=[10 ** 30])
        self.refused(LotError, ((2, 0),), settlement, plan=[2, 0])
        self.refused(LotError, ((0, 0, 1),), settlement, plan=(0, 0, 1))
        self.refused(LotError, ((0, 1, 3, 2),), settlement, plan=[0, 1, 3, 2])

    def test_arguments_of_holds(self):
        far = 10 ** 6 + 1
        for paper in (settlement(), settlement(near=SINGLE), Refusal([]), Refusal([R(1), R(2)])):
            self.refused(SizeError, (3,), paper.holds, BOOK, [far] * 3)
            self.refused(SizeError, (5,), paper.holds, BOOK, (0,) * 5)
            self.refused(NumberError, (far,), paper.holds, BOOK, [0, far, -far, 0])
            self.refused(NumberError, (-far,), paper.holds, BOOK, (-far, 0, 0, far))


class RefusalTest(AnswerCase):
    def test_definition(self):
        random = Random(92)
        for kind in KINDS:
            seen = set()
            for family in FAMILIES:
                for _ in range(10):
                    book = lowered(random, some_book(random, family, borne(random, family), kind))
                    prices = some_prices(random, book, random.random() < 0.8)
                    if random.random() < 0.1:
                        prices = random.choice([prices[1:], prices + [Fraction(0)]])[:5]
                    wanted = refuses_by(book, prices)
                    paper = Refusal(ratios_for(prices))
                    self.assertIs(self.asked(paper.holds, book, some_costs(random, family.things)), wanted)
                    seen.add((len(prices) == len(book.wishes), wanted))
            self.assertEqual(seen, {(True, True), (True, False), (False, False)})

    def test_told(self):
        book = Book(PAIRS, [Wish.of(4, [0, 1], most=0), Wish.of(4, [2, 3], least=2)])
        for prices, wanted in (([R(1), R(0)], True), ([R(0), R(-1)], True), ([R(0), R(0)], False), ([R(1)], False),
                               ([R(1), R(1)], False), ([R(-1), R(-1)], False), ([R(1), R(0), R(0)], False),
                               ([], False), ([R(1, MOST), R(-1, MOST - 1)], True), ([R(MOST), R(-MOST)], True)):
            self.assertIs(Refusal(prices).holds(book, [0] * 4), wanted)
            self.assertIs(Refusal(tuple(prices)).holds(book, (5, 10 ** 6, -10 ** 6, 1)), wanted)

    def test_other_parts(self):
        book = Book(PAIRS, [Wish.of(4, [0, 1], most=0)])
        for part in (1, 0, "1", [R(1)], (), None, True):
            self.assertIs(self.asked(Refusal([part]).holds, book, [0] * 4), False)


class SettlementTest(AnswerCase):
    def test_right(self):
        for paper in (settlement(), settlement(plan=(0, 2), prices=(R(1), R(2)))):
            self.assertIs(self.asked(paper.holds, BOOK, COSTS), True)
            self.assertIs(paper.holds(BOOK, tuple(COSTS)), True)
        self.assertTrue(settles_by(BOOK, COSTS, settlement()))
        self.assertIs(settlement(near=MIXTURE, plan=[1, 2]).holds(BOOK, COSTS), True)
        other = Mixture(4, [(R(1, 4), lot) for lot in ([0, 2], [0, 3], [1, 2], [1, 3])])
        self.assertIs(settlement(mixture=other).holds(BOOK, COSTS), True)
        self.assertIs(settlement(near=other).holds(BOOK, COSTS), True)
        # The same book with its family told by groups in another way, and with another book of the same numbers.
        self.assertIs(settlement().holds(Book(Groups([1, 1, 0, 0], [1, 1]), BOOK.wishes), COSTS), True)

    def wrong(self, **other):
        self.assertIs(self.asked(settlement(**other).holds, BOOK, COSTS), False, other)

    def test_mixture_is_wrong(self):
        self.wrong(mixture=Mixture(4, [(HALF, [0, 1]), (HALF, [2, 3])]), near=NEAR)
        self.wrong(mixture=Mixture(4, [(HALF, [0, 1, 2]), (HALF, [3])]))
        self.wrong(mixture=SINGLE, near=SINGLE, value=R(0), prices=[R(0), R(0)])
        self.wrong(mixture=SINGLE)
        dear = Mixture(4, [(R(1), [1, 3])])
        self.wrong(mixture=dear, near=dear, value=R(6), plan=[1, 3])
        self.wrong(mixture=dear, near=dear, plan=[1, 3])
        third = Mixture(4, [(R(1, 3), [0, 3]), (R(2, 3), [1, 2])])
        self.wrong(mixture=third, near=third, plan=[1, 2], value=R(8, 3))
        self.wrong(mixture=third)
        for other in (Mixture(3, [(R(1), [0, 2])]), Mixture(5, [(HALF, [0, 3]), (HALF, [1, 2])])):
            self.wrong(mixture=other)
            self.wrong(mixture=other, near=other)
        for other in (None, 3, "mixture", [(HALF, [0, 3])], R(1)):
            self.wrong(mixture=other)

    def test_prices_are_wrong(self):
        for prices in ([R(1), R(1)], [R(0), R(0)], [R(1)], [R(1), R(2), R(0)], [], [R(2), R(1)], [R(-1), R(2)],
                       [R(1), R(2) + R(1, 10 ** 9)], [R(1) - R(1, MOST), R(2)], [1, 2], [R(1), "2"], [None, R(2)]):
            self.wrong(prices=prices)

    def test_value_is_wrong(self):
        for value in (R(2), R(4), R(0), R(-3), R(3) - R(1, 10 ** 1999), R(3) + R(1, 10 ** 500), 3, "3", None, [R(3)]):
            self.wrong(value=value)

    def test_near_mixture_is_wrong(self):
        self.wrong(near=SINGLE)
        self.wrong(near=Mixture(4, [(R(1), [1, 2])]), plan=[1, 2])
        self.wrong(near=Mixture(4, [(R(1, 3), [0, 2]), (R(2, 3), [1, 3])]))
        self.wrong(near=Mixture(4, [(HALF, [0, 1, 2]), (HALF, [3])]), plan=[3])
        self.wrong(near=Mixture(5, [(HALF, [0, 2]), (HALF, [1, 3])]))
        for other in (None, 3, "near", [(HALF, [0, 2])], R(1)):
            self.wrong(near=other)

    def test_near_mixture_has_a_base_that_is_not_near(self):
        """Wishes of things 0 and 2 with depth 1 and slack 0."""
        book = Book(PAIRS, [Wish.of(4, [0, 2], most=1)])
        good = Settlement(MIXTURE, [R(0)], R(0), MIXTURE, [0, 3])
        self.assertIs(good.holds(book, [0] * 4), True)
        self.assertIs(Settlement(NEAR, [R(0)], R(0), MIXTURE, [0, 3]).holds(book, [0] * 4), True)
        self.assertIs(Settlement(MIXTURE, [R(0)], R(0), NEAR, [0, 2]).holds(book, [0] * 4), False)
        self.assertIs(Settlement(NEAR, [R(0)], R(0), NEAR, [0, 2]).holds(book, [0] * 4), False)

    def test_near_mixture_has_too_many_lots(self):
        lots = [[0, 1], [0, 2], [0, 3], [1, 2], [1, 3], [2, 3]]
        many = Mixture(4, [(R(1, 6), lot) for lot in lots])
        few = Mixture(4, [(HALF, [0, 1]), (HALF, [2, 3])])
        book = Book(Choice(4, 2), [])
        self.assertIs(Settlement(many, [], R(0), few, [0, 1]).holds(book, [0] * 4), True)
        self.assertIs(Settlement(few, [], R(0), many, [0, 1]).holds(book, [0] * 4), False)

    def test_plan_is_wrong(self):
        for plan in ([1, 3], [0, 3], [1, 2], [0], [], [0, 1, 2, 3], [0, 2, 9], [9]):
            self.wrong(plan=plan)
        even = Book(PAIRS, [])
        for plan, wanted in (([0, 2], True), ([1, 3], False), ([0, 3], False)):
            self.assertIs(Settlement(MIXTURE, [], R(0), NEAR, plan).holds(even, [0] * 4), wanted)

    def test_other_books(self):
        paper = settlement()
        self.assertIs(paper.holds(BOOK, [0, 2, 0, 5]), False)
        self.assertIs(paper.holds(BOOK, [0, 4, 0, 2]), False)
        wishes = BOOK.wishes
        for book in (Book(PAIRS, wishes[:1]), Book(PAIRS, wishes + wishes[:1]), Book(PAIRS, []),
                     Book(PAIRS, [wishes[0], Wish([0, 0, 2, 0], most=0)]), Book(Choice(4, 1), wishes),
                     Book(PAIRS, [wishes[0], Wish([0, 0, 2, 0], most=2)]), Book(Choice(4, 3), wishes)):
            self.assertIs(self.asked(paper.holds, book, COSTS), False)
        for things in (0, 3, 5):
            book = Book(Choice(things, 0), [Wish([0] * things, most=1)] * 2)
            self.assertIs(self.asked(paper.holds, book, [0] * things), False)
        self.assertIs(Settlement(MIXTURE, [R(0)] * 2, R(0), NEAR, [0, 2]).holds(Book(Choice(0, 0), []), []), False)

    def test_chance(self):
        """Papers with one part of another answer of the same family, against the definition."""
        random = Random(93)
        seen = {}
        for family in FAMILIES:
            bases = list(family.bases())
            for _ in range(8):
                shares = borne(random, family)
                book = some_book(random, family, shares)
                costs = random.choice([some_costs(random, family.things), [0] * family.things])
                right = settle(book, costs)
                table = mixed(random, bases, 2)
                other = Mixture(family.things, [(ratio_for(weight), lot) for lot, weight in table.items()])
                value = mean_cost(costs, shares_by(family.things, table))
                plan = min(table, key=lambda lot: (cost_by(costs, lot), len(lot), lot))
                prices = ratios_for(some_prices(random, book))
                alike = near_mixture(book, right.mixture.shares) if whole_of(right.mixture.shares) < 10 ** 20 else other
                for paper in (Settlement(other, right.prices, right.value, right.near, right.plan),
                              Settlement(other, right.prices, ratio_for(value), other, plan),
                              Settlement(right.mixture, prices, right.value, right.near, right.plan),
                              Settlement(right.mixture, right.prices, right.value, other, plan),
                              Settlement(right.mixture, right.prices, right.value, alike, right.plan),
                              Settlement(right.mixture, right.prices, right.value, right.near, plan)):
                    wanted = settles_by(book, costs, paper)
                    self.assertIs(paper.holds(book, costs), wanted)
                    seen[wanted] = seen.get(wanted, 0) + 1
        self.assertGreater(min(seen[True], seen[False]), 100)

    def test_any_denominator(self):
        """The shares of the mixtures may have denominators far above 10 ** 20."""
        random = Random(94)
        family = Choice(10, 5)
        bases = list(family.bases())
        for whole in (10 ** 40, 10 ** 40 - 1, 3 ** 83):
            mixture = far_mixture(random, random.sample(bases, 200), whole)
            self.assertGreater(whole_of(mixture.shares), 10 ** 20)
            near = mixture.trimmed()
            self.assertLessEqual(len(near), 10)
            costs = [7] * 10
            plan = near.pairs[0][1]
            for book in (Book(family, []), Book(family, [Wish([1] * 10, most=5, least=5)])):
                prices = [R(0)] * len(book.wishes)
                paper = Settlement(mixture, prices, R(35), near, plan)
                self.assertTrue(settles_by(book, costs, paper))
                self.assertIs(self.asked(paper.holds, book, costs), True)
                self.assertIs(Settlement(near, prices, R(35), near, plan).holds(book, costs), True)
                self.assertIs(Settlement(near, prices, R(35), mixture, mixture.pairs[0][1]).holds(book, costs), False)
                self.assertIs(paper.holds(book, costs[:9] + [8]), False)
            tight = Book(family, [Wish.of(10, [0], most=mixture.shares[0].floor())])
            self.assertIs(Settlement(mixture, [R(0)], R(35), near, plan).holds(tight, costs), False)

    def test_denominators_near_the_bound_of_trimmed(self):
        """A trimmed mixture may have weights with a denominator up to 10 ** 50."""
        random = Random(95)
        book, greatest = Book(Choice(10, 5), []), 0
        for _ in range(4):
            mixture = far_mixture(random, random.sample(list(Choice(10, 5).bases()), 60), 10 ** 40)
            near = mixture.trimmed()
            greatest = max(greatest, whole_of([weight for weight, _ in near.pairs]))
            self.assertEqual(fracs(near.shares), fracs(mixture.shares))
            self.assertIs(Settlement(mixture, [], R(0), near, near.pairs[0][1]).holds(book, [0] * 10), True)
            self.assertIs(Settlement(near, [], R(0), near, near.pairs[-1][1]).holds(book, [0] * 10), False)
            self.assertIs(Settlement(mixture, [], R(1, MOST), near, near.pairs[0][1]).holds(book, [0] * 10), False)
        self.assertTrue(10 ** 40 < greatest <= 10 ** 50)
