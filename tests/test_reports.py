"""Points 3 to 5, 10 and 60 and the section nodearer/texts/reports.py."""

from random import Random

from nodearer.errors import NumberError, SizeError
from nodearer.exact.ratios import MOST
from nodearer.families.counts import Choice, Groups
from nodearer.prices.answers import Refusal, Settlement
from nodearer.prices.settle import settle
from nodearer.shares.mixtures import Mixture
from nodearer.texts.reports import report
from nodearer.wishes.books import Book
from nodearer.wishes.wishes import Wish
from tests.plans import (FAMILIES, HALF, KINDS, R, borne, count_by, fracs, lowered, mean_by, ratio_for, some_book)
from tests.settled import AnswerCase, some_costs

PAIRS = Groups([0, 0, 1, 1], [1, 1])
BOOK = Book(PAIRS, [Wish.of(4, [0, 2], most=3), Wish.of(4, [1], least=-20), Wish.of(4, [0], most=1, least=0)])
MIXTURE = Mixture(4, [(HALF, [0, 2]), (R(1, 3), [1, 2]), (R(1, 6), [1, 3])])


def line_by(at, mean, wanted, count, price):
    """A line of point 60, put together without formats."""
    def right(text, width):
        return " " * max(0, width - len(text)) + text

    left = wanted + " " * max(0, 12 - len(wanted))
    return " ".join([right(str(at), 2), right(mean, 10), left, right(count, 4), price])


def wanted_by(wish):
    if wish.most is None:
        return ">= " + str(wish.least)
    return "<= " + str(wish.most) if wish.least is None else str(wish.least) + " .. " + str(wish.most)


class ReportTest(AnswerCase):
    def test_told(self):
        paper = Settlement(MIXTURE, [R(0), R(-1, 3), R(25)], R(7), MIXTURE, [1, 2])
        self.exact(self.asked(report, BOOK, [0] * 4, paper), [
            " 0        4/3 <= 3            1 0",
            " 1        1/2 >= -20          1 -1/3",
            " 2        1/2 0 .. 1          0 25"])
        refusal = Refusal([R(1), R(-2), R(1, 9)])
        self.exact(self.asked(report, BOOK, (9, 9, 9, 9), refusal), [
            " 0          - <= 3            - 1",
            " 1          - >= -20          - -2",
            " 2          - 0 .. 1          - 1/9"])

    def test_definition(self):
        random = Random(118)
        seen = set()
        for kind in KINDS:
            for family in FAMILIES:
                book = lowered(random, some_book(random, family, borne(random, family), kind))
                costs = some_costs(random, family.things)
                answer = settle(book, costs)
                lines = []
                for at, (wish, price) in enumerate(zip(book.wishes, answer.prices)):
                    mean = count = "-"
                    if answer.KIND == "settlement":
                        mean = str(ratio_for(mean_by(wish, fracs(answer.mixture.shares))))
                        count = str(count_by(wish, answer.plan))
                    lines.append(line_by(at, mean, wanted_by(wish), count, str(price)))
                self.exact(self.asked(report, book, costs, answer), lines)
                seen.add(answer.KIND)
        self.assertEqual(seen, {"refusal", "settlement"})

    def test_long_parts_are_not_cut(self):
        far = 10 ** 40
        mixture = Mixture(4, [(R(1, far), [0, 2]), (R(far - 1, far), [1, 3])])
        wish = Wish([20, 0, 20, 20], most=1000)
        near = Wish.of(4, [0, 1, 2, 3], most=1000, least=-1000)
        prices = [R(MOST), R(-MOST, 3)]
        lines = report(Book(PAIRS, [wish]), [0] * 4, Settlement(mixture, prices[:1], R(0), mixture, [0, 2]))
        mean = str(R(20 * (far + 1), far))
        self.exact(lines, [f" 0 {mean} <= 1000        40 {MOST}"])
        lines = report(Book(PAIRS, [near]), [0] * 4, Settlement(mixture, prices[1:], R(0), mixture, [0, 2]))
        self.exact(lines, [f" 0          2 -1000 .. 1000    2 -{MOST}/3"])

    def test_answers_are_not_judged(self):
        """Whether the answer is right is not looked at."""
        paper = Settlement(Mixture(4, [(R(1), [0, 1, 2])]), [R(5), R(5), R(-5)], R(-1), MIXTURE, [])
        self.exact(report(BOOK, [0] * 4, paper), [
            " 0          2 <= 3            0 5",
            " 1          1 >= -20          0 5",
            " 2          1 0 .. 1          0 -5"])

    def test_no_wishes_and_no_things(self):
        self.exact(report(Book(PAIRS, []), [0] * 4, settle(Book(PAIRS, []), [0] * 4)), [])
        self.exact(report(Book(PAIRS, []), [0] * 4, Refusal([])), [])
        book = Book(Choice(0, 0), [Wish([], most=0)] * 5)
        self.exact(report(book, [], settle(book, ()))[4], " 4          0 <= 0            0 0")

    def test_refusals(self):
        good = Refusal([R(0)] * 3)
        for paper in (good, Refusal([]), Settlement(MIXTURE, [R(0)] * 5, R(0), MIXTURE, [])):
            self.refused(SizeError, (3,), report, BOOK, [10 ** 7] * 3, paper)
            self.refused(SizeError, (5,), report, BOOK, (0,) * 5, paper)
            self.refused(NumberError, (10 ** 6 + 1,), report, BOOK, [0, 10 ** 6 + 1, -10 ** 7, 0], paper)
        for many in (0, 2, 4, 5):
            self.refused(SizeError, (many,), report, BOOK, [0] * 4, Refusal([R(0)] * many))
            paper = Settlement(MIXTURE, [R(0)] * many, R(0), MIXTURE, [0, 2])
            self.refused(SizeError, (many,), report, BOOK, [0] * 4, paper)

    def test_lists_are_new(self):
        report(BOOK, [0] * 4, Refusal([R(0)] * 3)).clear()
        self.assertEqual(len(report(BOOK, [0] * 4, Refusal([R(0)] * 3))), 3)
