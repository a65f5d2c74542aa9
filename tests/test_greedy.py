"""Points 3 to 7, 10, 21, 22 and 23: least bases, floor papers and least families."""

from random import Random

from nodearer.errors import NumberError, SizeError
from nodearer.exact.ratios import Ratio
from nodearer.families.counts import Choice, Groups
from nodearer.families.greedy import floor_paper, judge_floor, least_base, least_family
from nodearer.families.told import Told
from nodearer.families.vectors import Vectors
from nodearer.families.webs import Web
from tests.helpers import Case
from tests.test_built import mirrors


def some_family(random):
    rows = [[random.randint(-1, 1) for _ in range(3)] for _ in range(random.randrange(7))]
    return Vectors(rows, random.choice([0, 2, 3]))


def shows(family, costs, floor, paper):
    """The two conditions of point 22."""
    top, falls = paper
    if any(top - sum(fall for fall, lot in falls if thing in lot) > costs[thing] for thing in range(family.things)):
        return False
    return top * family.full - sum(fall * family.rank_of(lot) for fall, lot in falls) >= floor


class LeastTest(Case):
    def test_least_base_and_family(self):
        random = Random(18)
        for _ in range(200):
            family = some_family(random)
            costs = [random.randint(-2, 2) for _ in range(family.things)]
            taken = []
            for thing in sorted(range(family.things), key=lambda x: (costs[x], x)):
                if family.free(taken + [thing]):
                    taken.append(thing)
            self.exact(least_base(family, list(costs)), tuple(sorted(taken)))
            prices = {base: sum(costs[x] for x in base) for base in family.bases()}
            lowest = min(prices.values())
            self.assertEqual(prices[least_base(family, costs)], lowest)
            cheap = least_family(family, tuple(costs))
            self.assertIs(cheap.__class__, Told)
            self.exact(cheap.lots, tuple(base for base in prices if prices[base] == lowest))
            self.assertEqual((cheap.things, cheap.nodes), (family.things, 1))

    def test_told(self):
        self.exact(least_base(Choice(3, 2), [5, 5, 4]), (0, 2))
        self.exact(least_base(Choice(0, 0), []), ())
        self.exact(least_base(Choice(3, 0), [-1, -1, -1]), ())
        self.exact(least_base(Web(2, [(0, 0), (0, 1), (1, 0)]), (-9, 2, 1)), (2,))
        self.exact(least_base(Choice(10, 1), [10 ** 6] * 9 + [-10 ** 6]), (9,))
        self.assertEqual(least_family(Choice(10, 5), [0] * 10), Choice(10, 5))
        self.exact(least_family(Choice(0, 0), []).lots, ((),))
        self.exact(least_family(mirrors(Choice(3, 1), 40), [1, 0, 0]).lots, ((1, 2),))

    def test_floor_paper(self):
        random = Random(19)
        for _ in range(200):
            family = some_family(random)
            costs = [random.randint(-3, 3) for _ in range(family.things)]
            steps = sorted(set(costs))
            falls = [(steps[at + 1] - steps[at], tuple(x for x in range(family.things) if costs[x] <= steps[at]))
                     for at in range(len(steps) - 1)]
            paper = floor_paper(family, costs)
            self.exact(paper, (max(costs, default=0), falls))
            least = sum(costs[x] for x in least_base(family, costs))
            self.assertIs(judge_floor(family, costs, least, paper), True)
            self.assertIs(judge_floor(family, costs, least + 1, paper), False)

    def test_floor_papers_told(self):
        self.exact(floor_paper(Choice(3, 2), [4, 1, 4]), (4, [(3, (1,))]))
        self.exact(floor_paper(Choice(3, 2), (7, 7, 7)), (7, []))
        self.exact(floor_paper(Choice(0, 0), []), (0, []))
        self.exact(floor_paper(Choice(1, 1), [-4]), (-4, []))
        top, falls = floor_paper(Choice(10, 3), [10 * at for at in range(10)])
        self.assertEqual((top, len(falls)), (90, 9))
        falls.clear()
        self.assertEqual(len(floor_paper(Choice(10, 3), [10 * at for at in range(10)])[1]), 9)

    def test_costs_are_looked_at(self):
        family = Choice(2, 1)
        for call in (least_base, floor_paper, least_family, lambda some, costs: judge_floor(some, costs, 10 ** 9, None)):
            self.refused(SizeError, (1,), call, family, [10 ** 7])
            self.refused(SizeError, (3,), call, family, [0, 0, 0])
            self.refused(NumberError, (10 ** 6 + 1,), call, family, [0, 10 ** 6 + 1])
            self.refused(NumberError, (-10 ** 6 - 1,), call, family, [-10 ** 6 - 1, 10 ** 7])

    def test_arguments_stay(self):
        costs, paper = [2, 1, 2], (2, [(1, [1, 1])])
        family = Choice(3, 1)
        least_base(family, costs), floor_paper(family, costs), least_family(family, costs)
        self.assertIs(judge_floor(family, costs, 1, paper), True)
        self.assertEqual((costs, paper), ([2, 1, 2], (2, [(1, [1, 1])])))


class JudgeFloorTest(Case):
    FAMILY, COSTS = Groups([0, 0, 1, 1], [1, 1]), [3, 5, 2, 2]

    def judge(self, floor, paper, wanted):
        self.assertIs(judge_floor(self.FAMILY, self.COSTS, floor, paper), wanted)

    def test_floors(self):
        paper = (5, [(2, (0, 2, 3)), (1, (2, 3))])
        self.judge(5, paper, True)
        self.judge(4, paper, True)
        self.judge(-10 ** 8, paper, True)
        self.judge(6, paper, False)
        self.judge(10 ** 8, paper, False)

    def test_chance_papers(self):
        random = Random(20)
        seen = set()
        for _ in range(2000):
            falls = [(random.randint(1, 3), tuple(random.randrange(4) for _ in range(random.randint(0, 5))))
                     for _ in range(random.randrange(4))]
            paper, floor = (random.randint(0, 6), falls), random.randint(-3, 6)
            wanted = shows(self.FAMILY, self.COSTS, floor, paper)
            seen.add(wanted)
            self.judge(floor, paper, wanted)
        self.assertEqual(seen, {True, False})

    def test_repeated_things_count_once(self):
        self.judge(5, (5, [(2, [3, 0, 2, 0, 0]), (1, [3, 2, 3, 2])]), True)
        self.judge(5, (5, ((2, [0, 2, 3]), (1, (2, 3)))), True)
        self.judge(2, (5, [(3, [2] * 60), (3, [3]), (2, [0])]), True)
        self.judge(3, (5, [(3, [2] * 60), (3, [3]), (2, [0])]), False)
        self.judge(2, (5, [(3, [2] * 30 + [3] * 30), (2, [0])]), True)
        self.judge(2, (5, [(3, [2] * 31 + [3] * 30), (2, [0])]), False)

    def test_number_of_falls(self):
        many = [(1, [])] * 18
        self.judge(5, (5, [(2, (0, 2, 3)), (1, (2, 3))] + many), True)
        self.judge(5, (5, [(2, (0, 2, 3)), (1, (2, 3))] + many + [(1, [])]), False)

    def test_both_conditions(self):
        self.judge(0, (3, []), False)
        self.judge(4, (2, []), True)
        self.judge(5, (2, []), False)

    def test_great_numbers(self):
        far = 10 ** 3000
        self.judge(0, (-far, []), False)
        self.judge(0, (far, [(far - 2, [0, 1, 2, 3])]), True)
        self.judge(5, (far, [(far - 2, [0, 1, 2, 3])]), False)

    def test_other_forms(self):
        falls = [(2, (0, 2, 3)), (1, (2, 3))]
        for paper in (None, True, 5, "ab", [5, falls], (5,), (5, falls, 1), (), (Ratio(5), falls), (True, falls),
                      (None, falls), ("5", falls), ([5], falls), (5, None), (5, 3), (5, "ab"), (5, falls[0]),
                      (5, [[2, (0, 2, 3)], (1, (2, 3))]), (5, [(2, (0, 2, 3), 1), falls[1]]), (5, [(2,), falls[1]]),
                      (5, [()]), (5, [None]), (5, ["ab"]), (5, [3]), (5, [(0, (0,))] + falls), (5, [(-1, (0,))] + falls),
                      (5, [(Ratio(2), (0, 2, 3)), falls[1]]), (5, [(True, (0,))] + falls), (5, [(None, (0,))] + falls),
                      (5, [("2", (0,))] + falls), (5, [([2], (0,))] + falls), (5, falls + [(1, None)]),
                      (5, falls + [(1, 2)]), (5, falls + [(1, "01")]), (5, falls + [(1, [4])]), (5, falls + [(1, [-1])]),
                      (5, falls + [(1, [True])]), (5, falls + [(1, [None])]), (5, falls + [(1, [Ratio(1)])]),
                      (5, falls + [(1, ["1"])]), (5, falls + [(1, [[1]])]), (5, falls + [((1,), [1])])):
            self.judge(-100, paper, False)
        self.judge(-100, (5, falls + [(1, [1])]), True)

    def test_floor_is_looked_at(self):
        for paper in (None, (5, [])):
            self.refused(NumberError, (10 ** 8 + 1,), judge_floor, self.FAMILY, self.COSTS, 10 ** 8 + 1, paper)
            self.refused(NumberError, (-10 ** 8 - 1,), judge_floor, self.FAMILY, self.COSTS, -10 ** 8 - 1, paper)
            self.refused(SizeError, (0,), judge_floor, self.FAMILY, [], 10 ** 9, paper)
        self.judge(10 ** 8, (10 ** 9, [(10 ** 9 - 2, [0, 1, 2, 3])]), False)

    def test_no_things(self):
        family = Choice(0, 0)
        self.assertIs(judge_floor(family, [], 0, (0, [])), True)
        self.assertIs(judge_floor(family, [], 0, (-7, ())), True)
        self.assertIs(judge_floor(family, [], 1, (10 ** 9, [])), False)
        self.assertIs(judge_floor(family, [], 0, (0, [(1, [0])])), False)
        self.assertIs(judge_floor(family, [], 0, (0, [(1, [])])), True)
