"""Points 3 to 5, 9, 10, 30, 44, 50 and 54 and the section nodearer/fronts/panels.py."""

from random import Random

from nodearer.errors import NumberError, SizeError, ThingError, WishError
from nodearer.families.counts import Choice
from nodearer.fronts.front import Front
from nodearer.fronts.panels import Panel
from nodearer.wishes.books import Book
from nodearer.wishes.wishes import Wish
from tests.helpers import subsets
from tests.settled import AnswerCase

TRAITS = [([3, 0, 3], 1, None), ((1, 2), None, 1), ([], 4, -2), ([0, 1, 2, 3], 3, 2)]
TOLD = (((0, 3), 1, None), ((1, 2), None, 1), ((), 4, -2), ((0, 1, 2, 3), 3, 2))


def some_traits(random, people):
    traits = []
    for _ in range(random.randint(0, 5)):
        lot = [random.randrange(people) for _ in range(random.randint(0, 12))] if people else []
        single = [(random.randint(0, 4), None), (None, random.randint(0, 3))]
        most, least = random.choice(single + [(2, 1), (1, 1), (3, 0)])
        traits.append((lot, most, least))
    return traits


def wishes_by(people, traits):
    return [Wish([1 if person in lot else 0 for person in range(people)], most=most, least=least)
            for lot, most, least in traits]


def words_by(traits, lot):
    """The words of point 54 for people."""
    told = []
    for person in lot:
        marks = [str(at) for at, trait in enumerate(traits) if person in trait[0]]
        told.append("person " + str(person) + (" has " + " ".join(marks) if marks else ""))
    return told


class PanelTest(AnswerCase):
    def test_fields(self):
        lot, traits, costs = [2, 0], [([3, 0, 3], 1, None)], [1, 2, 3, 4]
        traits.append((lot, None, 0))
        panel = Panel(4, 2, traits, costs=costs)
        lot.append(1)
        costs[0] = 9
        traits.pop()
        self.assertIsInstance(panel, Front)
        self.exact((panel.people, panel.size, panel.traits), (4, 2, (((0, 3), 1, None), ((0, 2), None, 0))))
        self.exact(panel.costs, (1, 2, 3, 4))
        self.exact(Panel(4, 2, TRAITS).traits, TOLD)
        self.exact((Panel(4, 2, tuple(TRAITS), costs=(5, 6, 7, -8)).costs, Panel(4, 2, []).costs),
                   ((5, 6, 7, -8), (0, 0, 0, 0)))
        self.assertEqual(Panel(4, 2, TRAITS).book, Book(Choice(4, 2), wishes_by(4, TRAITS)))
        self.exact((panel.book.family.take, panel.book.kind), (2, "both"))

    def test_definition(self):
        random = Random(120)
        seen = set()
        for _ in range(60):
            people = random.choice([0, 1, 4, 7, 10])
            size, traits = random.randint(0, people), some_traits(random, people)
            costs = random.choice([None, [random.randint(-9, 9) for _ in range(people)]])
            panel = self.asked(Panel, people, size, traits, costs=costs)
            self.assertEqual(panel.book, Book(Choice(people, size), wishes_by(people, traits)))
            self.exact(panel.costs, tuple(costs or [0] * people))
            seen.add(self.answer_is_right(panel.book, panel.costs, self.asked(panel.solve)) is None)
            for lot in random.sample(subsets(people), min(10, 2 ** people)):
                turned = list(lot)[::-1] * 2
                self.exact(self.asked(panel.counts, turned), [len(set(lot) & set(trait[0])) for trait in traits])
                self.exact(self.asked(panel.words, turned), words_by(traits, lot))
        self.assertEqual(seen, {True, False})

    def test_told(self):
        panel = Panel(4, 2, TRAITS)
        self.exact(panel.words([3, 1]), ["person 1 has 1 3", "person 3 has 0 3"])
        self.exact(Panel(11 - 1, 1, [([9], 0, None)]).words((9, 8)), ["person 8", "person 9 has 0"])
        self.exact(panel.counts([0, 3]), [2, 0, 0, 2])
        self.exact((Panel(0, 0, []).words([]), Panel(0, 0, []).counts(()), Panel(0, 0, []).solve().plan), ([], [], ()))
        self.exact(Panel(3, 1, [], costs=[3, 1, 2]).solve().plan, (1,))
        self.exact(Panel(10, 10, []).solve().plan, tuple(range(10)))

    def test_looks(self):
        """People, size, traits with their parts, costs."""
        bad = [([9], 10 ** 4, None)]
        for rest in ((1, TRAITS), (11, bad), (-1, [])):
            self.refused(NumberError, (11,), Panel, 11, *rest, costs=[10 ** 7])
            self.refused(NumberError, (-1,), Panel, -1, *rest)
        for size in (-1, 11):
            self.refused(NumberError, (size,), Panel, 4, size, bad, costs=[10 ** 7])
        for size in (2, 9):
            for costs in (None, [], [10 ** 7] * 4):
                self.refused(SizeError, (6,), Panel, 4, size, bad * 6, costs=costs)
                self.refused(ThingError, (4,), Panel, 4, size, [([0, 4, -1], 2000, 2000)], costs=costs)
                self.refused(SizeError, (61,), Panel, 4, size, [([9] * 61, 2000, 2000)], costs=costs)
                self.refused(NumberError, (1001,), Panel, 4, size, [([0], 1001, -1001), ([9], 0, 0)], costs=costs)
                self.refused(NumberError, (-1001,), Panel, 4, size, [([0], None, -1001), ([9], 0, 0)], costs=costs)
                self.refused(ThingError, (9,), Panel, 4, size, [([0], None, None), ([9], 0, 0)], costs=costs)
            none = [([0], None, None)]
            self.refused(SizeError, (3,), Panel, 4, size, none, costs=[10 ** 7] * 3)
            self.refused(SizeError, (5,), Panel, 4, size, none, costs=(0,) * 5)
            self.refused(NumberError, (10 ** 6 + 1,), Panel, 4, size, none, costs=[0, 10 ** 6 + 1, -10 ** 7, 0])
        self.exact(Panel(4, 2, [([0], 1000, -1000)]).traits, (((0,), 1000, -1000),))

    def test_conditions(self):
        for traits in ([], [([0], None, None)]):
            self.refused(NumberError, (5,), Panel, 4, 5, traits)
            self.refused(NumberError, (1,), Panel, 0, 1, [])
        for trait in (([0], None, None), ([], 0, 1), ([1], -1000, 1000)):
            self.refused(WishError, (None,), Panel, 4, 4, [([0], 1, None), trait], costs=[1] * 4)
        self.assertEqual(len(Panel(4, 4, [([0], 1, 1)] * 5).book.wishes), 5)

    def test_lots_are_looked_at(self):
        panel = Panel(4, 2, TRAITS)
        for call in (panel.counts, panel.words):
            self.refused(ThingError, (4,), call, [0, 4, -1])
            self.refused(ThingError, (-1,), call, (-1, 4))
            self.refused(SizeError, (61,), call, [9] * 61)
