"""Points 1 to 65 together: what one part of the program makes is what another part takes."""

import ast
from fractions import Fraction
from pathlib import Path
from random import Random

from nodearer.desk.desks import Desk
from nodearer.draws.calendars import Calendar
from nodearer.draws.tapes import drawn, period_of
from nodearer.errors import NodearerError
from nodearer.exact.ratios import Ratio
from nodearer.fronts.crews import Crew
from nodearer.fronts.nets import Net
from nodearer.fronts.panels import Panel
from nodearer.fronts.works import Works
from nodearer.prices.answers import Refusal, Settlement
from nodearer.prices.judges import judge_bound, judge_refusal, judge_shares
from nodearer.prices.settle import settle
from nodearer.prices.trees import least_keeper
from nodearer.shares.mixtures import Mixture
from nodearer.shares.peel import judge_mixture, peeled
from nodearer.texts.papers import (ladder_text, mixture_text, prices_text, read_ladder, read_mixture, read_prices)
from nodearer.texts.reports import report
from nodearer.texts.sheets import book_text, read_book
from nodearer.walks.ladders import followed, judge_ladder
from nodearer.walks.near import judge_near
from nodearer.walks.walker import Walker
from tests.plans import FAMILIES, KINDS, borne, frac, lowered, near_by, shares_by, some_book, table_of
from tests.settled import AnswerCase, cost_by, some_costs
from tests.test_edits import some_edit

PACKAGE = Path(__file__).resolve().parent.parent / "nodearer"


class WholeTest(AnswerCase):
    def test_from_a_text_to_a_calendar(self):
        random = Random(124)
        calendars = 0
        for kind in KINDS:
            for family in FAMILIES:
                start = some_book(random, family, borne(random, family, 3), kind)
                book, costs = read_book(book_text(start, some_costs(random, family.things)))
                answer = settle(book, costs)
                self.answer_is_right(start, costs, answer)
                self.judged_apart(book, costs, answer)
                self.walked(book, costs, answer)
                self.assertEqual(len(report(book, costs, answer)), len(book.wishes))
                if period_of(answer.near) <= 400:
                    calendar = Calendar(answer.near)
                    days = [set(lot) for lot in calendar]
                    for thing, share in enumerate(answer.near.shares):
                        self.assertEqual(Fraction(sum(thing in day for day in days), len(days)), frac(share))
                    self.assertEqual(sorted(calendar), sorted(drawn(answer.near, day) for day in range(len(days))))
                    calendars += 1
        self.assertGreater(calendars, 40)

    def judged_apart(self, book, costs, answer):
        """The judges of all parts agree, and so does an answer that is made of the texts of its parts."""
        shares = answer.mixture.shares
        self.assertTrue(judge_mixture(book.family, shares, answer.mixture))
        self.assertTrue(judge_mixture(book.family, shares, peeled(book.family, shares)))
        self.assertTrue(judge_near(book, shares, answer.near))
        self.assertTrue(judge_shares(book, shares))
        self.assertTrue(judge_bound(book, costs, answer.value, answer.prices))
        things = book.family.things
        parts = [read_mixture(things, mixture_text(mixture)) for mixture in (answer.mixture, answer.near)]
        told = Settlement(parts[0], read_prices(prices_text(answer.prices)), Ratio.read(str(answer.value)), parts[1],
                          list(answer.plan))
        self.assertTrue(told.holds(book, costs))

    def walked(self, book, costs, answer):
        """A walk from the shares of the settlement ends in near bases, and its ladder can be written and followed."""
        shares = answer.mixture.shares
        walker = Walker(book, shares)
        walker.run()
        lines = walker.ladder()
        if len(lines) <= 1000 and len(ladder_text(lines)) <= 20000:
            lines = read_ladder(book.family.things, ladder_text(lines))
        self.assertTrue(judge_ladder(book, shares, lines))
        found = followed(book, shares, lines)
        self.assertEqual(found, walker.found())
        near = Mixture(book.family.things, found)
        self.assertEqual(near.shares, tuple(shares))
        few = near.trimmed()
        self.assertTrue(judge_near(book, shares, few))
        plan = min([lot for _, lot in few], key=lambda lot: (cost_by(costs, lot), len(lot), lot))
        told = Settlement(answer.mixture, answer.prices, answer.value, few, plan)
        self.assertTrue(told.holds(book, costs))

    def test_refused_books(self):
        random = Random(125)
        refused = 0
        for family in FAMILIES:
            for _ in range(4):
                book = lowered(random, some_book(random, family, borne(random, family)))
                costs = some_costs(random, family.things)
                book, costs = read_book(book_text(book, costs))
                answer = settle(book, costs)
                tree = least_keeper(book, costs)
                self.assertTrue(tree.holds(book, costs))
                if answer.KIND == "refusal":
                    refused += 1
                    self.assertTrue(judge_refusal(book, answer.prices))
                    self.assertTrue(Refusal(read_prices(prices_text(answer.prices))).holds(book, costs))
                    self.assertIsNone(tree.base)
                elif tree.base is not None:
                    self.assertLessEqual(frac(answer.value), cost_by(costs, tree.base))
                    self.assertLessEqual(cost_by(costs, answer.plan), cost_by(costs, tree.base))
        self.assertGreater(refused, 8)

    def test_desks_answer_as_fresh_ones(self):
        random = Random(126)
        for family in FAMILIES:
            book = some_book(random, family, borne(random, family))
            desk = Desk(book, some_costs(random, family.things))
            for _ in range(25):
                try:
                    desk.do(some_edit(random, desk.book))
                except NodearerError:
                    pass
                if random.random() < 0.3:
                    desk.answer()
                if random.random() < 0.2 and desk.history():
                    desk.undo()
            answer, fresh = desk.answer(), Desk(desk.book, desk.costs).answer()
            value = self.answer_is_right(desk.book, desk.costs, answer)
            self.assertEqual(self.answer_is_right(desk.book, desk.costs, fresh), value)
            told, costs = read_book(book_text(desk.book, desk.costs))
            self.assertEqual(self.answer_is_right(told, costs, settle(told, costs)), value)
            self.assertTrue(answer.holds(told, costs))

    def test_fronts_at_a_desk(self):
        fronts = [Net(3, [(0, 1, 4), (1, 2, 3), (0, 2, 5), (0, 1, 6)], [1, 1, 1]),
                  Panel(5, 2, [([0, 1], 1, None), ([2, 3, 4], None, 1)], costs=[3, 1, 4, 1, 5]),
                  Crew(2, [[0], [0, 1], [1]], [([0, 2], 1, None)], costs=[1, 9, 1]), Works([[3, 3], [3, 3], [2, 2]], 4)]
        for front in fronts:
            desk = Desk(front.book, front.costs)
            self.assertEqual(desk.answer().KIND, front.solve().KIND)
            for at, wish in enumerate(front.book.wishes):
                if wish.most is not None:
                    desk.do(("most", at, wish.most + 1))
            answer = desk.answer()
            self.assertEqual(answer.KIND, "settlement")
            self.answer_is_right(desk.book, desk.costs, answer)
            self.assertEqual(len(front.words(answer.plan)), len(answer.plan))
            for lot in (lot for _, lot in answer.near):
                self.assertIn(lot, near_by(desk.book))
            self.assertEqual(shares_by(desk.book.family.things, table_of(answer.near)),
                             shares_by(desk.book.family.things, table_of(answer.mixture)))

    def test_what_the_program_does_not_use(self):
        """Point 1: no clock, no random numbers and no files; nothing but a few names of the library is imported."""
        for path in PACKAGE.rglob("*.py"):
            tree = ast.parse(path.read_text())
            modules = {node.module for node in ast.walk(tree) if isinstance(node, ast.ImportFrom)}
            self.assertTrue(all(module == "math" or module.startswith("nodearer.") for module in modules), path)
            self.assertFalse([node for node in ast.walk(tree) if isinstance(node, ast.Import)], path)
            names = {node.id for node in ast.walk(tree) if isinstance(node, ast.Name)}
            self.assertFalse(names & {"open", "print", "input", "exec", "eval", "__import__"}, path)
