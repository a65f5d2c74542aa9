"""Points 3 to 5, 9, 10, 44, 50 to 52 and the section nodearer/fronts/works.py."""

from itertools import product
from random import Random

from nodearer.errors import GapError, LotError, NumberError, SizeError, ThingError
from nodearer.families.counts import Groups
from nodearer.fronts.front import Front
from nodearer.fronts.works import Fast, Works, fast
from nodearer.wishes.books import Book
from nodearer.wishes.wishes import Wish
from tests.helpers import subsets
from tests.settled import AnswerCase

TIMES = [[3, 0, 4], [5, 2, 0], [0, 6, 1]]
TALL = [[1, 1]] * 5


def pairs_by(times, limit):
    return [(job, machine) for job, row in enumerate(times) for machine, time in enumerate(row) if 1 <= time <= limit]


def book_by(times, limit):
    """The book of point 51."""
    pairs = pairs_by(times, limit)
    wishes = [Wish([times[job][machine] * (machine == wished) for job, machine in pairs], most=limit)
              for wished in range(len(times[0]))]
    return Book(Groups([job for job, _ in pairs], [1] * len(times)), wishes)


def some_times(random):
    """A table in which every job has a time, with at most ten times in all."""
    jobs, machines = random.choice([(1, 1), (1, 5), (2, 2), (3, 3), (5, 2), (4, 3), (10, 1), (7, 4), (10, 5)])
    most = random.choice([2, 9, 20])
    cells = {(job, random.randrange(machines)) for job in range(jobs)}
    wanted = min(10, jobs * machines, random.choice([jobs + 1, 10]))
    while len(cells) < wanted:
        cells.add((random.randrange(jobs), random.randrange(machines)))
    return [[random.randint(1, most) if (job, machine) in cells else 0 for machine in range(machines)]
            for job in range(jobs)]


def ends_by(times):
    """The ends of all choices of one machine for each job."""
    ends = []
    for choice in product(*[[at for at, time in enumerate(row) if time] for row in times]):
        loads = [0] * len(times[0])
        for job, machine in enumerate(choice):
            loads[machine] += times[job][machine]
        ends.append(max(loads))
    return ends


class WorksTest(AnswerCase):
    def test_fields(self):
        works = Works(TIMES, 5)
        self.assertIsInstance(works, Front)
        self.exact((works.times, works.limit), (((3, 0, 4), (5, 2, 0), (0, 6, 1)), 5))
        self.exact(works.open_pairs, ((0, 0), (0, 2), (1, 0), (1, 1), (2, 2)))
        self.exact(works.costs, (0,) * 5)
        self.assertEqual(works.book, book_by(TIMES, 5))
        self.exact((works.book.family.groups, works.book.family.takes), ((0, 0, 1, 1, 2), (1, 1, 1)))
        self.assertEqual([wish.weights for wish in works.book.wishes],
                         [(3, 0, 5, 0, 0), (0, 0, 0, 2, 0), (0, 4, 0, 0, 1)])
        self.assertEqual({(wish.most, wish.least) for wish in works.book.wishes}, {(5, None)})

    def test_costs(self):
        costs = [[1, -10 ** 6, 2], [3, 4, 10 ** 6], [5, 6, 7]]
        times = [list(row) for row in TIMES]
        works = Works(times, 6, costs=costs)
        costs[0][0] = times[0][0] = 9
        costs.pop()
        self.exact((works.costs, works.times), ((1, 2, 3, 4, 6, 7), ((3, 0, 4), (5, 2, 0), (0, 6, 1))))
        self.exact(Works(TIMES, 2 + 1, costs=((1, 2, 3), (4, 5, 6), [7, 8, 9])).costs, (1, 5, 9))

    def test_definition(self):
        random = Random(106)
        seen = set()
        for _ in range(60):
            times = some_times(random)
            limit = random.randint(max(min(time for time in row if time) for row in times), 30)
            costs = [[random.randint(-9, 9) for _ in row] for row in times]
            told = random.choice([None, costs])
            works = self.asked(Works, times, limit, costs=told)
            pairs = pairs_by(times, limit)
            self.exact(works.open_pairs, tuple(pairs))
            self.assertEqual(works.book, book_by(times, limit))
            self.exact(works.costs, tuple(costs[job][machine] if told else 0 for job, machine in pairs))
            seen.add(self.answer_is_right(works.book, works.costs, self.asked(works.solve)) is None)
            self.check_lots(random, works, times, pairs)
        self.assertEqual(seen, {True, False})

    def check_lots(self, random, works, times, pairs):
        for lot in random.sample(subsets(len(pairs)), 20 if len(pairs) > 4 else 2):
            loads = [sum(times[job][machine] for job, machine in [pairs[thing] for thing in lot] if machine == at)
                     for at in range(len(times[0]))]
            turned = list(lot)[::-1] * 2
            self.exact(self.asked(works.loads, turned), loads)
            self.exact(self.asked(works.end, turned), max(loads))
            self.exact(self.asked(works.words, turned), [
                f"job {pairs[thing][0]} on machine {pairs[thing][1]} for {times[pairs[thing][0]][pairs[thing][1]]}"
                for thing in lot])
            if not works.book.family.is_base(lot):
                self.refused(LotError, (lot,), works.laying, turned)
        for lot in list(works.book.family.bases())[:20]:
            self.exact(self.asked(works.laying, list(lot)[::-1]), [pairs[thing][1] for thing in lot])

    def test_told(self):
        works = Works(TIMES, 5)
        self.exact(works.laying([4, 3, 0]), [0, 1, 2])
        self.exact((works.loads([0, 2]), works.end([0, 2]), works.end([])), ([8, 0, 0], 8, 0))
        self.exact(works.words((1, 3)), ["job 0 on machine 2 for 4", "job 1 on machine 1 for 2"])
        self.refused(LotError, ((0, 1),), works.laying, [1, 0, 1])
        self.refused(LotError, ((0, 1, 2),), works.laying, [2, 1, 0])

    def test_lots_are_looked_at(self):
        works = Works(TIMES, 5)
        for call in (works.laying, works.loads, works.end, works.words):
            self.refused(ThingError, (5,), call, [0, 5, -1])
            self.refused(ThingError, (-1,), call, (-1, 5))
            self.refused(SizeError, (61,), call, [9] * 61)

    def test_looks(self):
        """Arguments in their order, each one completely before the next one."""
        bad = [[0] * 11] * 11
        for limit in (5, 0):
            for costs in (None, bad):
                self.refused(SizeError, (0,), Works, [], limit, costs=costs)
                self.refused(SizeError, (11,), Works, [[30]] * 11, limit, costs=costs)
                self.refused(SizeError, (0,), Works, [[1], [], [30]], limit, costs=costs)
                self.refused(SizeError, (6,), Works, [[1, 2], [30] * 6], limit, costs=costs)
                self.refused(NumberError, (21,), Works, [[1], [2, 21, -1], []], limit, costs=costs)
                self.refused(NumberError, (-1,), Works, ((1,), (2, -1)), limit, costs=costs)
        for times in (TIMES, [[0], [1, 2]], TALL + [[1]]):
            for costs in (None, bad):
                self.refused(NumberError, (0,), Works, times, 0, costs=costs)
                self.refused(NumberError, (201,), Works, times, 201, costs=costs)
                self.refused(NumberError, (-5,), Works, times, -5, costs=costs)
            self.refused(SizeError, (11,), Works, times, 1, costs=bad)
            self.refused(SizeError, (11,), Works, times, 1, costs=[[0], [10 ** 7], [0] * 11][::-1])
            self.refused(NumberError, (10 ** 6 + 1,), Works, times, 1, costs=[[0, 10 ** 6 + 1], [-10 ** 7]])
            self.refused(NumberError, (-10 ** 6 - 1,), Works, times, 1, costs=([], [-10 ** 6 - 1]))

    def test_conditions(self):
        """After the looks: the widths, then a job without an open pair, then their number, then the costs."""
        for costs in (None, [], [[1]] * 3, [[1, 2, 3]] * 10):
            self.refused(SizeError, (2,), Works, [[0, 0, 0], [1, 1], [1]], 5, costs=costs)
            self.refused(SizeError, (4,), Works, [[0], [0], [1] * 4, [1, 1]], 5, costs=costs)
            self.refused(GapError, (1,), Works, [[1] * 5, [0] * 5, [1] * 5, [0] * 5], 5, costs=costs)
            self.refused(GapError, (0,), Works, [[9, 9], [1, 1]], 8, costs=costs)
            self.refused(SizeError, (11,), Works, [[1] * 4, [1] * 4, [1, 1, 1, 0]], 1, costs=costs)
            self.refused(SizeError, (50,), Works, [[20] * 5] * 10, 200, costs=costs)
        self.refused(SizeError, (0,), Works, TIMES, 5, costs=[])
        self.refused(SizeError, (2,), Works, TIMES, 5, costs=[[1], [2, 3]])
        self.refused(SizeError, (4,), Works, TIMES, 5, costs=[[0] * 3] * 4)
        self.refused(SizeError, (2,), Works, TIMES, 5, costs=[[0] * 3, [1, 1], [1]])
        self.refused(SizeError, (0,), Works, TIMES, 5, costs=([0] * 3, [0] * 3, ()))
        self.assertEqual(len(Works([[1] * 5, [1] * 5], 200).open_pairs), 10)
        self.assertEqual(len(Works([[9, 1, 1, 1, 1, ], [1] * 5, [9] * 4 + [1]], 1).open_pairs), 10)

    def test_limits(self):
        self.exact(Works([[1]], 1).solve().KIND, "settlement")
        self.exact(Works([[20]] * 10, 200).solve().plan, tuple(range(10)))
        self.exact(Works([[20]] * 10, 199).solve().KIND, "refusal")


class FastTest(AnswerCase):
    def check(self, times):
        plan = self.asked(fast, times)
        self.assertIs(plan.__class__, Fast)
        self.exact(plan.works.limit, plan.limit)
        self.exact(plan.works.times, tuple(tuple(row) for row in times))
        self.assertEqual(plan.works.book, book_by(times, plan.limit))
        self.exact(plan.works.costs, (0,) * len(plan.works.open_pairs))
        zeros = plan.works.costs
        self.assertIsNotNone(self.answer_is_right(plan.works.book, zeros, plan.settlement))
        self.exact(plan.machines, tuple(plan.works.laying(plan.settlement.plan)))
        self.exact(plan.done_by, max(plan.works.loads(plan.settlement.plan)))
        loads = [0] * len(times[0])
        for job, machine in enumerate(plan.machines):
            self.assertTrue(1 <= times[job][machine] <= plan.limit)
            loads[machine] += times[job][machine]
        self.assertEqual(max(loads), plan.done_by)
        longest = max(times[job][machine] for job, machine in plan.works.open_pairs)
        self.assertLessEqual(plan.done_by, plan.limit + longest)
        self.assertLessEqual(plan.done_by, 2 * plan.limit)
        self.assertGreaterEqual(min(ends_by(times)), plan.limit)
        low = max(min(time for time in row if time) for row in times)
        if plan.limit - 1 < low:
            self.assertIsNone(plan.refusal)
        else:
            book = book_by(times, plan.limit - 1)
            self.assertIsNone(self.answer_is_right(book, [0] * book.family.things, plan.refusal))
        return plan

    def test_definition(self):
        random = Random(107)
        seen = set()
        for _ in range(80):
            plan = self.check(some_times(random))
            seen.add((plan.refusal is None, plan.done_by > plan.limit))
        self.assertEqual(len(seen), 4)

    def test_told(self):
        plan = self.check([[3, 3], [3, 3], [2, 2]])
        self.exact((plan.limit, plan.refusal.KIND, 5 <= plan.done_by <= 7), (4, "refusal", True))
        plan = self.check([[1]])
        self.exact((plan.limit, plan.refusal, plan.machines, plan.done_by), (1, None, (0,), 1))
        plan = self.check([[20]] * 10)
        self.exact((plan.limit, plan.machines, plan.done_by), (200, (0,) * 10, 200))
        plan = self.check(([20, 0], (0, 19)))
        self.exact((plan.limit, plan.refusal, plan.machines), (20, None, (0, 1)))
        plan = self.check([[20, 1], [1, 20]])
        self.exact((plan.limit, plan.refusal, plan.machines, plan.done_by), (1, None, (1, 0), 1))

    def test_great_tables(self):
        random = Random(108)
        for times in ([[20, 20]] * 5, [[20] * 5] * 2, [[19, 20]] * 5, [[random.randint(1, 20)] for _ in range(10)],
                      [[7, 11, 13, 17, 20]] * 2, [[20, 13, 17], [19, 14, 16], [18, 15, 11], [1, 0, 0]]):
            self.check(times)

    def test_refusals(self):
        self.refused(SizeError, (0,), fast, [])
        self.refused(SizeError, (11,), fast, [[30]] * 11)
        self.refused(SizeError, (0,), fast, [[1], [], [30]])
        self.refused(SizeError, (6,), fast, [[1, 2], [30] * 6])
        self.refused(NumberError, (21,), fast, [[1], [2, 21, -1], []])
        self.refused(NumberError, (-1,), fast, ((1,), (2, -1)))
        self.refused(SizeError, (2,), fast, [[0, 0, 0], [1, 1], [1]])
        self.refused(GapError, (1,), fast, [[1] * 5, [0] * 5, [1] * 5, [0] * 5])
        self.refused(GapError, (0,), fast, [[0]])
        self.refused(SizeError, (11,), fast, [[1] * 4, [1] * 4, [20, 1, 1, 0]])
        self.refused(SizeError, (50,), fast, [[20] * 5] * 10)

    def test_fields_of_fast(self):
        plan = fast([[3, 3], [3, 3], [2, 2]])
        other = Fast(plan.works, None, plan.settlement)
        self.exact((other.refusal, other.limit, other.machines, other.done_by),
                   (None, plan.limit, plan.machines, plan.done_by))
        self.assertEqual((other.works.book, other.settlement.plan), (plan.works.book, plan.settlement.plan))
