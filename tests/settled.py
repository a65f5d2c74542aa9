"""What the tests of answers, fronts and desks have in common: answers, judged by their definitions over fractions."""

from fractions import Fraction

from nodearer.prices.answers import Refusal, Settlement
from tests.plans import (PlanCase, depth_by, floor_by, frac, fracs, keepers_by, kind_by, misfit, near_by, shares_by,
                         table_of, unfit_by, whole_of)


def cost_by(costs, lot):
    return sum(costs[thing] for thing in lot)


def mean_cost(costs, shares):
    return sum([cost * share for cost, share in zip(costs, shares)], Fraction(0))


def shows_by(book, costs, bound, prices):
    """Whether prices, as fractions, show a bound (point 42)."""
    if len(prices) != len(book.wishes) or unfit_by(book, prices) is not None:
        return False
    return floor_by(book, costs, prices) >= bound


def refuses_by(book, prices):
    if len(prices) != len(book.wishes) or unfit_by(book, prices) is not None:
        return False
    return floor_by(book, [0] * book.family.things, prices) > 0


def settles_by(book, costs, answer):
    """Whether a settlement has the properties of point 44; so its value is the value of the book."""
    things, value = book.family.things, frac(answer.value)
    if (answer.mixture.things, answer.near.things) != (things, things):
        return False
    mixture, near = table_of(answer.mixture), table_of(answer.near)
    shares = shares_by(things, mixture)
    if any(min(table.values()) <= 0 or sum(table.values()) != 1 for table in (mixture, near)):
        return False
    if not set(mixture) <= set(book.family.bases()) or misfit(book, shares) is not None:
        return False
    if mean_cost(costs, shares) != value or not shows_by(book, costs, value, fracs(answer.prices)):
        return False
    if not set(near) <= set(near_by(book)) or len(near) > max(1, things) or shares_by(things, near) != shares:
        return False
    return answer.plan == min(near, key=lambda lot: (cost_by(costs, lot), len(lot), lot))


def is_right(book, costs, answer):
    if answer.KIND == "refusal":
        return refuses_by(book, fracs(answer.prices))
    return settles_by(book, costs, answer)


class AnswerCase(PlanCase):
    def answer_is_right(self, book, costs, answer):
        """What settling a book for costs may return; returns the value as a fraction, or None."""
        self.assertIn(answer.__class__, (Refusal, Settlement))
        self.assertTrue(is_right(book, costs, answer))
        self.assertIs(self.asked(answer.holds, book, costs), True)
        self.assertIs(answer.prices.__class__, tuple)
        if answer.__class__ is Refusal:
            self.assertEqual(answer.KIND, "refusal")
            self.assertEqual(keepers_by(book), [])
            return None
        self.assertEqual(answer.KIND, "settlement")
        for mixture in (answer.mixture, answer.near):
            self.assertLessEqual(whole_of([weight for weight, _ in mixture.pairs]), 10 ** 50)
        self.exact(answer.plan, tuple(sorted(set(answer.plan))))
        cost = cost_by(costs, answer.plan)
        self.assertLessEqual(cost, frac(answer.value))
        keepers = [cost_by(costs, lot) for lot in keepers_by(book)]
        self.assertGreaterEqual(min(keepers, default=10 ** 9), frac(answer.value))
        if kind_by(book) != "weighted" and depth_by(book) <= 1:
            self.assertIn(answer.plan, keepers_by(book))
            self.assertEqual(cost, min(keepers))
        return frac(answer.value)


def some_costs(random, things):
    bound = random.choice([0, 1, 3, 10 ** 6])
    return [random.randint(-bound, bound) for _ in range(things)]
