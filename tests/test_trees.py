"""Points 3 to 6, 9, 10 and 46 and the section nodearer/prices/trees.py."""

from random import Random

from nodearer.errors import NumberError, SizeError
from nodearer.exact.ratios import MOST
from nodearer.families.counts import Choice, Groups
from nodearer.prices.settle import settle
from nodearer.prices.trees import Tree, least_keeper
from nodearer.wishes.books import Book
from nodearer.wishes.wishes import Wish
from tests.helpers import subsets
from tests.plans import (FAMILIES, KINDS, R, borne, charge_by, fracs, great_case, keepers_by, lowered, ratios_for,
                         some_book, some_prices, unfit_by)
from tests.settled import AnswerCase, cost_by, some_costs

PAIRS = Groups([0, 0, 1, 1], [1, 1])
BOOK = Book(PAIRS, [Wish.of(4, [0, 2], most=1), Wish.of(4, [1, 3], most=1)])
COSTS = [0, 3, 1, 5]
NONE = Book(PAIRS, [Wish.of(4, [0, 2], most=0), Wish.of(4, [1, 3], most=0)])
ZEROS = [R(0), R(0)]
# Thing 0 is taken: the base (0, 2) misses wish 0, and (0, 3) is the best; without it the cheapest costs 4 and 8.
LINES = [("split", 0), ("split", 2), ("refused", [R(1), R(0)]), ("dearer", ZEROS),
         ("split", 3), ("refused", [R(0), R(1)]), ("dearer", [R(0), R(0)])]


def rest_of(book, costs, base, lines, taken, left):
    """The lines behind those of a case by point 46, or None if they are not right."""
    if not lines:
        return None
    line, things = lines[0], book.family.things
    bases = [lot for lot in book.family.bases() if set(taken) <= set(lot) and not set(left) & set(lot)]
    if line == ("empty",):
        return None if bases else lines[1:]
    if len(line) == 2 and line[0] == "split":
        if line[1] not in range(things) or line[1] in taken + left:
            return None
        rest = rest_of(book, costs, base, lines[1:], taken + [line[1]], left)
        return None if rest is None else rest_of(book, costs, base, rest, taken, left + [line[1]])
    if len(line) != 2 or len(line[1]) != len(book.wishes) or unfit_by(book, fracs(line[1])) is not None:
        return None
    charges = [charge_by(book, fracs(line[1]), lot) for lot in bases]
    if line[0] == "refused":
        return lines[1:] if all(charge > 0 for charge in charges) else None
    if line[0] != "dearer" or base is None:
        return None
    sums = [charge + cost_by(costs, lot) for charge, lot in zip(charges, bases)]
    return lines[1:] if all(value >= cost_by(costs, base) for value in sums) else None


def right_by(book, costs, base, lines):
    if base is not None and tuple(base) not in keepers_by(book):
        return False
    return rest_of(book, costs, base, list(lines), [], []) == []


def full_tree(things, line_of, taken=()):
    """The lines that split every case completely, the things in ascending order."""
    if len(taken) == things:
        return [line_of(tuple(thing for thing, mark in enumerate(taken) if mark))]
    return ([("split", len(taken))] + full_tree(things, line_of, taken + (True,))
            + full_tree(things, line_of, taken + (False,)))


class LeastKeeperTest(AnswerCase):
    def check(self, book, costs):
        tree = self.asked(least_keeper, book, costs)
        self.assertIs(tree.__class__, Tree)
        keepers = keepers_by(book)
        wanted = min(keepers, key=lambda lot: (cost_by(costs, lot), len(lot), lot), default=None)
        self.exact(tree.base, wanted)
        self.assertLessEqual(len(tree.lines), 2100)
        self.assertTrue(all(line.__class__ is tuple for line in tree.lines))
        self.assertIs(self.asked(tree.holds, book, costs), True)
        self.assertTrue(right_by(book, costs, tree.base, tree.lines))
        self.assertIs(Tree(tree.base, list(tree.lines)).holds(book, costs), True)
        self.assertIs(Tree(tree.base, tree.lines[:-1]).holds(book, costs), False)
        self.assertIs(Tree(tree.base, tree.lines + tree.lines[-1:]).holds(book, costs), False)
        if settle(book, costs).KIND == "refusal":
            self.assertIsNone(tree.base)
        return tree.base is None

    def test_definition(self):
        random = Random(96)
        for kind in KINDS:
            seen = {}
            for family in FAMILIES:
                for _ in range(5):
                    book = some_book(random, family, borne(random, family), kind)
                    book = lowered(random, book) if random.random() < 0.6 else book
                    none = self.check(book, some_costs(random, family.things))
                    seen[none] = seen.get(none, 0) + 1
            self.assertGreater(min(seen[True], seen[False]), 8, kind)

    def test_great_cases(self):
        random = Random(97)
        for kind in KINDS:
            book, _ = great_case(random, Choice(10, 5), kind)
            for costs in ([0] * 10, [random.randint(-10 ** 6, 10 ** 6) for _ in range(10)]):
                self.check(book, costs)
                self.check(lowered(random, book), costs)
        # Every second base misses the wish, so that hardly any case ends early.
        odd = Book(Choice(10, 5), [Wish([1, 2] * 5, most=7), Wish([2, 1] * 5, most=7)])
        self.check(odd, [0] * 10)
        self.check(odd, [(-1) ** thing * 100 * thing for thing in range(10)])

    def test_told(self):
        self.exact(least_keeper(BOOK, COSTS).base, (1, 2))
        self.exact(least_keeper(BOOK, [0, 0, 0, 0]).base, (0, 3))
        self.exact(least_keeper(BOOK, (1, 0, 0, 0)).base, (1, 2))
        self.assertIsNone(least_keeper(NONE, COSTS).base)
        self.exact(least_keeper(Book(Choice(3, 1), []), [5, 4, 4]).base, (1,))

    def test_no_things(self):
        self.exact(least_keeper(Book(Choice(0, 0), []), []).base, ())
        self.assertIsNone(least_keeper(Book(Choice(0, 0), [Wish([], most=-1)]), ()).base)
        self.assertIs(Tree([], [("dearer", [])]).holds(Book(Choice(0, 0), []), []), True)
        self.assertIs(Tree([], [("empty",)]).holds(Book(Choice(0, 0), []), []), False)
        self.assertIs(Tree(None, [("refused", [R(1)])]).holds(Book(Choice(0, 0), [Wish([], most=-1)]), []), True)

    def test_refusals(self):
        for call in (least_keeper, lambda book, costs: Tree(None, []).holds(book, costs),
                     lambda book, costs: Tree([0, 2], LINES).holds(book, costs)):
            for book in (BOOK, NONE):
                self.refused(SizeError, (3,), call, book, [10 ** 7] * 3)
                self.refused(SizeError, (5,), call, book, (0,) * 5)
                self.refused(NumberError, (10 ** 6 + 1,), call, book, [0, 10 ** 6 + 1, -10 ** 7, 0])
                self.refused(NumberError, (-10 ** 6 - 1,), call, book, [0, 0, 0, -10 ** 6 - 1])


class TreeTest(AnswerCase):
    def holds(self, base, lines, wanted, book=BOOK, costs=COSTS):
        for told in (lines, tuple(lines)):
            self.assertIs(self.asked(Tree(base, told).holds, book, costs), wanted, (base, lines))

    def test_right(self):
        self.exact(keepers_by(BOOK), [(0, 3), (1, 2)])
        lines = [("split", 0), ("split", 2), ("refused", [R(1), R(0)]), ("dearer", ZEROS),
                 ("split", 3), ("refused", (R(0), R(1))), ("dearer", ZEROS)]
        self.holds([1, 2], lines, True)
        self.holds((2, 1, 1, 2), lines, True)
        self.holds([0, 3], lines, False)
        self.holds([0, 3], lines, True, costs=[0, 3, 2, 5])
        # One line: under these prices each base costs at least 4 (and the others 2 + 2 = 4 and 8 + 1).
        self.holds([1, 2], [("dearer", [R(3), R(0)])], True)
        self.holds([1, 2], [("dearer", [R(3) - R(1, MOST // 4), R(0)])], False)
        self.holds([0, 3], [("dearer", [R(3), R(0)])], False)
        self.holds(None, [("dearer", [R(3), R(0)])], False)
        self.holds(None, [("refused", [R(1), R(1)])], False)
        self.holds(None, [("refused", [R(1), R(1)])], True, book=NONE)
        self.holds(None, [("refused", [R(MOST), R(1, MOST)])], True, book=NONE)
        self.holds(None, [("refused", [R(1), R(0)])], False, book=NONE)

    def test_base(self):
        lines = [("dearer", [R(3), R(0)])]
        for base in ([0, 2], [1, 3], [1], [], [1, 2, 3], [1, 4], [-1, 2], [1, 2, 10 ** 40], [-10 ** 40], [0, 1],
                     list(range(60))):
            self.holds(base, lines, False)
        self.holds([1, 2] * 30, lines, True)
        self.holds([1, 2] * 30, [], False)
        self.holds([1, 2], [("dearer", [R(3), R(0)])] * 2, False)

    def test_cases_without_bases(self):
        ahead = [("split", 0), ("split", 1)]
        behind = [("dearer", [R(3), R(0)]), ("dearer", [R(3), R(0)])]
        for line, wanted in ((("empty",), True), (("refused", ZEROS), True), (("refused", [R(1), R(2)]), True),
                             (("dearer", ZEROS), True), (("dearer", [R(5), R(5)]), True),
                             (("refused", [R(-1), R(0)]), False), (("dearer", [R(0), R(-1, MOST)]), False),
                             (("refused", [R(0)]), False), (("dearer", [R(0)] * 3), False), (("dearer",), False),
                             (("refused",), False), (("empty", ZEROS), False), (("empty", 0), False), ((), False),
                             (("split", 0), False), (("split", 1), False)):
            self.holds([1, 2], ahead + [line] + behind, wanted)
            self.holds([1, 2], ahead + [("split", 2), line, line] + behind, wanted and line[0] != "split")
        none = [("refused", [R(1), R(1)])] * 2
        self.holds(None, ahead + [("empty",)] + none, True, book=NONE)
        self.holds(None, ahead + [("refused", ZEROS)] + none, True, book=NONE)
        self.holds(None, ahead + [("dearer", ZEROS)] + none, False, book=NONE)
        self.holds([1, 2], [("empty",)], False)
        self.holds(None, [("empty",)], False, book=NONE)

    def test_splits(self):
        end = ("dearer", [R(3), R(0)])
        self.holds([1, 2], [("split", 3), end, end], True)
        self.holds([1, 2], [("split", 3), ("split", 3), end, end, end], False)
        self.holds([1, 2], [("split", 3), end, ("split", 3), end, end], False)
        self.holds([1, 2], [("split", 3), end, ("split", 0), end, end], True)
        self.holds([1, 2], [("split", 3), ("split", 0), end, end, ("split", 0), end, end], True)
        self.holds([1, 2], [("split", 3), end], False)
        self.holds([1, 2], [("split", 3), end, end, end], False)
        self.holds([1, 2], [("split", 3)], False)
        self.holds([1, 2], [], False)
        for thing in (4, -1, 10 ** 50, "3", R(3), [3], (), "", [[3]]):
            self.holds([1, 2], [("split", thing), end, end], False)
        for line in (("split",), ("split", 3, 3), ("Split", 3), (3, "split"), (["split"], 3)):
            self.holds([1, 2], [line, end, end], False)

    def test_other_lines(self):
        for line in (("dearer", "33"), ("dearer", 3), ("dearer", R(3)), ("dearer", [3, 0]), ("dearer", [R(3), 0]),
                     ("dearer", [R(3), "0"]), ("dearer", [R(3)]), ("dearer", [R(3), R(0), R(0)]), ("dearer", []),
                     ("dearer", [[R(3), R(0)]]), ("dear", [R(3), R(0)]), ("", [R(3), R(0)]), (R(1), [R(3), R(0)]),
                     ("dearer", [R(3), R(0)], 0), ("dearer", [R(3), R(-1)]), ("dearer", [R(-3), R(0)]), (1, 2, 3),
                     ([], []), ("dearer", [R(3), []]), ("refused", [R(1), R(1)]), ("refused", 10 ** 5000),
                     ("empty",), ()):
            self.holds([1, 2], [line], False)
        self.holds([1, 2], ["dearer"], False)
        self.holds([1, 2], [["dearer", [R(3), R(0)]]], False)
        great = [R(MOST), R(1, MOST - 1)]
        self.holds([1, 2], [("dearer", great)], False)
        self.holds([1, 2], [("split", 0), ("split", 2), ("dearer", great), ("dearer", ZEROS), ("dearer", ZEROS)], True)

    def test_fields(self):
        base, prices = [2, 1, 2], [R(3), R(0)]
        lines = [("dearer", prices), ("split", [1, "a", R(1, 2)], 3)]
        tree = Tree(base, lines)
        base.append(0)
        prices.append(R(0))
        lines.append(("empty",))
        self.exact(tree.base, (1, 2))
        self.exact(tree.lines, (("dearer", (R(3), R(0))), ("split", (1, "a", R(1, 2)), 3)))
        self.exact((Tree(None, []).base, Tree(None, ()).lines), (None, ()))
        self.exact(Tree([], []).base, ())
        self.exact(Tree([10 ** 50, -3], []).base, (-3, 10 ** 50))

    def test_refusals(self):
        self.refused(SizeError, (61,), Tree, [1] * 61, [("empty",)] * 2101)
        self.refused(SizeError, (2101,), Tree, [1] * 60, [("empty",)] * 2101)
        self.refused(SizeError, (2101,), Tree, None, (("empty",),) * 2101)
        self.assertEqual(len(Tree([1], [("empty",)] * 2100).lines), 2100)
        self.holds([1, 2], [("empty",)] * 2100, False)

    def test_full_tree(self):
        """2047 lines split ten things completely."""
        costs = [3, 1, 4, 1, 5, 9, 2, 6, 5, 3]
        book = Book(Choice(10, 5), [Wish([1] * 5 + [0] * 5, most=2)])
        best = least_keeper(book, costs).base

        def line_of(lot):
            if len(lot) != 5:
                return ("empty",)
            return ("dearer", [R(0)]) if len(set(lot) & set(range(5))) <= 2 else ("refused", [R(1)])

        lines = full_tree(10, line_of)
        self.assertEqual(len(lines), 2047)
        self.holds(best, lines, True, book, costs)
        self.holds(best, lines + [("empty",)] * 53, False, book, costs)
        for at in (5, 9, 1023, 1500, 2046):
            other = ("refused", [R(0)]) if lines[at][0] == "refused" else ("refused", [R(-1)])
            self.holds(best, lines[:at] + [other] + lines[at + 1:], False, book, costs)

    def test_chance(self):
        """Trees with chance lines, most of them right, against the definition."""
        random = Random(98)
        seen = {}
        for family in FAMILIES:
            for _ in range(12):
                book = some_book(random, family, borne(random, family))
                book = lowered(random, book) if random.random() < 0.5 else book
                costs = some_costs(random, family.things)
                keepers = keepers_by(book)
                base = least_keeper(book, costs).base if random.random() < 0.7 else random.choice([None, *keepers])
                lines = self.some_lines(random, book, costs, base, [], [])
                wanted = right_by(book, costs, base, lines)
                self.holds(base, lines, wanted, book, costs)
                seen[wanted] = seen.get(wanted, 0) + 1
        self.assertGreater(min(seen[True], seen[False]), 20)

    def some_lines(self, random, book, costs, base, taken, left):
        rest = [thing for thing in range(book.family.things) if thing not in taken + left]
        choices = [("empty",)] + [(word, ratios_for(some_prices(random, book))) for word in ("refused", "dearer") * 3]
        choices += [(word, [R(0)] * len(book.wishes)) for word in ("refused", "dearer")]
        fine = [line for line in choices if rest_of(book, costs, base, [line], taken, left) == []]
        if fine and (not rest or random.random() < 0.8):
            return [random.choice(fine if random.random() < 0.99 else choices)]
        if not rest:
            return [random.choice(choices)]
        thing = random.choice(rest)
        return ([("split", thing)] + self.some_lines(random, book, costs, base, taken + [thing], left)
                + self.some_lines(random, book, costs, base, taken, left + [thing]))

    def test_what_right_trees_show(self):
        """No keeper is cheaper than the base of a right tree."""
        for lot in subsets(4):
            for cost in (0, 1, 2):
                tree = Tree(lot, [("dearer", [R(cost), R(0)])])
                if tree.holds(BOOK, COSTS):
                    self.assertEqual(lot, (1, 2))
