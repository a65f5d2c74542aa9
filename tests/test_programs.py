"""Points 4, 5, 6 and 13 and the section nodearer/exact/programs.py."""

from collections import Counter
from fractions import Fraction
from random import Random

from nodearer.errors import NumberError, SizeError
from nodearer.exact.programs import judge_program, solve_program
from nodearer.exact.ratios import MOST, Ratio
from tests.helpers import Case


def fracs(ratios):
    return [Fraction(ratio.num, ratio.den) for ratio in ratios]


def dot(first, second):
    return sum([x * y for x, y in zip(first, second)], Fraction(0))


def is_right(rows, sums, costs, answer):
    """The properties of point 13, over fractions."""
    columns = [[row[at] for row in rows] for at in range(len(costs))]
    if answer[0] == "none":
        prices = fracs(answer[1])
        return all(dot(prices, column) <= 0 for column in columns) and dot(prices, sums) > 0
    point, other = fracs(answer[1]), fracs(answer[2])
    if min(point, default=0) < 0 or [dot(row, point) for row in rows] != sums:
        return False
    if answer[0] == "point":
        return all(dot(other, column) <= cost for column, cost in zip(columns, costs)) \
            and dot(other, sums) == dot(costs, point)
    return min(other, default=0) >= 0 and all(dot(row, other) == 0 for row in rows) and dot(costs, other) < 0


def some_program(seed):
    random = Random(seed)
    many, width = random.randrange(9), random.randrange(41) if seed % 3 else random.randrange(6)
    bound = random.choice([1, 3, 20, 10 ** 4])
    rows = [[random.randint(-bound, bound) for _ in range(width)] for _ in range(many)]
    if many > 2 and seed % 2:
        rows[1] = list(rows[0])
    some = [random.randint(0, 3) for _ in range(width)]
    sums = [max(-10 ** 4, min(10 ** 4, sum(x * y for x, y in zip(row, some)))) for row in rows]
    if seed % 5 == 0:
        sums = [random.randint(-bound, bound) for _ in rows]
    return rows, sums, [random.randint(0 if seed % 4 else -bound, bound) for _ in range(width)]


R = Ratio


class SolveTest(Case):
    def test_answers_are_right(self):
        words = Counter()
        for seed in range(600):
            rows, sums, costs = some_program(seed)
            before = (str(rows), str(sums), str(costs))
            answer = solve_program(rows, sums, costs)
            self.assertEqual(before, (str(rows), str(sums), str(costs)))
            words[answer[0]] += 1
            self.assertIs(answer.__class__, tuple)
            lengths = {"point": [len(costs), len(rows)], "none": [len(rows)], "endless": [len(costs)] * 2}[answer[0]]
            self.assertEqual([len(part) for part in answer[1:]], lengths)
            for part in answer[1:]:
                self.assertIs(part.__class__, list)
                self.assertTrue(all(entry.__class__ is Ratio for entry in part))
            self.assertTrue(is_right(rows, sums, costs, answer))
            self.assertIs(judge_program(rows, sums, costs, answer), True)
        self.assertGreater(min(words[word] for word in ("point", "none", "endless")), 20)

    def test_told_answers(self):
        self.assertEqual(solve_program([[1, 1]], [2], [3, 1]), ("point", [R(0), R(2)], [R(1)]))
        self.assertEqual(solve_program([], [], []), ("point", [], []))
        self.assertEqual(solve_program([], [], [1, 0]), ("point", [R(0), R(0)], []))
        self.assertEqual(solve_program([], [], [1, -2])[0], "endless")
        self.assertEqual(solve_program([[]], [0], [])[0], "point")
        self.assertEqual(solve_program([[]], [-3], [])[0], "none")
        self.assertEqual(solve_program([[1]], [-1], [5])[0], "none")
        self.assertEqual(solve_program([[2], [4]], [1, 2], [6])[:2], ("point", [R(1, 2)]))
        self.assertEqual(solve_program(((1, -1),), (0,), (-1, 0))[0], "endless")
        self.assertEqual(solve_program([[0, 0]], [0], [-2, 0]), ("endless", [R(0), R(0)], [R(1), R(0)]))

    def test_at_the_bounds(self):
        random = Random(8)
        rows = [[random.choice([-10 ** 4, 10 ** 4, 9999, -9998]) for _ in range(40)] for _ in range(8)]
        for sums in ([10 ** 4] * 8, [-10 ** 4] * 8, [sum(row[:2]) // 2 for row in rows]):
            answer = solve_program(rows, sums, [10 ** 4 - at for at in range(40)])
            self.assertTrue(is_right(rows, sums, [10 ** 4 - at for at in range(40)], answer))

    def test_ties_do_not_go_round(self):
        # Beale's program, which goes round for ever with the greatest gain and without a rule for ties.
        rows = [[25, -800, -100, 900, 100, 0, 0], [50, -1200, -50, 300, 0, 100, 0], [0, 0, 1, 0, 0, 0, 1]]
        answer = solve_program(rows, [0, 0, 1], [-75, 2000, -50, 600, 0, 0, 0])
        self.assertEqual(answer[0], "point")
        self.assertTrue(is_right(rows, [0, 0, 1], [-75, 2000, -50, 600, 0, 0, 0], answer))

    def test_looks(self):
        for call in (solve_program, lambda *program: judge_program(*program, None)):
            self.refused(SizeError, (9,), call, [[99999]] * 9, [], [])
            self.refused(SizeError, (41,), call, [[0], [99999] * 41], [0] * 9, [])
            self.refused(NumberError, (10001,), call, [[0, 10001], [0] * 41], [0] * 9, [])
            self.refused(NumberError, (-10001,), call, [[-10001]], [0] * 9, [])
            self.refused(SizeError, (9,), call, [[1]], [99999] * 9, [0] * 41)
            self.refused(NumberError, (-10001,), call, [[1]], [0, -10001], [0] * 41)
            self.refused(SizeError, (41,), call, [[1]], [1, 2], [99999] * 41)
            self.refused(NumberError, (10001,), call, [[1]], [1, 2], [0, 10001])
            self.refused(SizeError, (2,), call, [[1]], [1, 2], [0, 0])
            self.refused(SizeError, (0,), call, [[1]], [], [0])
            self.refused(SizeError, (1,), call, [[1, 1], [1], [1, 2, 3]], [1, 2, 3], [0, 0])
            self.refused(SizeError, (0,), call, [[]], [1], [0])
            call([[0] * 40] * 8, [0] * 8, [0] * 40)


class JudgeTest(Case):
    ROWS, SUMS, COSTS = [[1, 1, 0], [0, 1, 1]], [2, 1], [1, 3, 1]

    def judge(self, answer, wanted, program=None):
        self.assertIs(judge_program(*(program or (self.ROWS, self.SUMS, self.COSTS)), answer), wanted)

    def test_points(self):
        point, prices = [R(2), R(0), R(1)], [R(1), R(1)]
        self.judge(("point", point, prices), True)
        self.judge(("point", tuple(point), tuple(prices)), True)
        self.judge(("point", [R(1), R(1), R(0)], prices), False)
        self.judge(("point", point, [R(1), R(2)]), False)
        self.judge(("point", point, [R(0), R(1)]), False)
        self.judge(("point", [R(3), R(-1), R(2)], prices), False)
        self.judge(("point", [R(2), R(0), R(2)], prices), False)
        self.judge(("point", [R(2), R(-1)], [R(0)]), False, ([[1, 1]], [1], [0, 0]))
        self.judge(("point", [R(1), R(0)], [R(0)]), True, ([[1, 1]], [1], [0, 0]))
        self.judge(("point", point, prices, []), False)
        self.judge(("point", point), False)
        self.judge(("point", point + [R(0)], prices), False)
        self.judge(("point", point, prices[:1]), False)
        self.judge(("point", point[:2], prices), False)

    def test_equally_cheap_points(self):
        program = ([[1, 1]], [1], [2, 2])
        for point in ([R(1), R(0)], [R(1, 3), R(2, 3)]):
            self.judge(("point", point, [R(2)]), True, program)

    def test_none(self):
        program = ([[1, 2], [-1, 0]], [-1, 0], [0, 0])
        self.judge(("none", [R(-1), R(0)]), True, program)
        self.judge(("none", (R(-1, 5), R(0))), True, program)
        self.judge(("none", [R(-1), R(-2)]), False, program)
        self.judge(("none", [R(0), R(0)]), False, program)
        self.judge(("none", [R(1), R(0)]), False, program)
        self.judge(("none", [R(-1)]), False, program)
        self.judge(("none", [R(-1), R(0)], []), False, program)
        self.judge(("none", []), False, ([], [], [1]))
        for word in ("point", "endless", "nothing", None, R(1), ["none"]):
            self.judge((word, [R(-1), R(0)]), False, program)

    def test_endless(self):
        program = ([[1, -1]], [1], [-1, 0])
        self.judge(("endless", [R(1), R(0)], [R(1), R(1)]), True, program)
        self.judge(("endless", (R(3, 2), R(1, 2)), (R(1, 2), R(1, 2))), True, program)
        self.judge(("endless", [R(1), R(0)], [R(1), R(0)]), False, program)
        self.judge(("endless", [R(0), R(0)], [R(1), R(1)]), False, program)
        self.judge(("endless", [R(1), R(0)], [R(0), R(0)]), False, program)
        self.judge(("endless", [R(1), R(0)], [R(1)]), False, program)
        for word in ("point", "none", "end", None, R(1), ["endless"]):
            self.judge((word, [R(1), R(0)], [R(1), R(1)]), False, program)
        for part in (None, True, "ab", 2, [1, 0], [R(1), None], [R(1), True], [R(1), "0"], [R(1)], [R(1)] * 3):
            self.judge(("endless", part, [R(1), R(1)]), False, program)
            self.judge(("endless", [R(1), R(0)], part), False, program)
        self.judge(("endless", [R(1), R(0)], [R(1), R(1)]), False, ([[1, -1]], [1], [1, 0]))
        self.judge(("endless", [R(1), R(0)], [R(-1), R(-1)]), False, ([[1, -1]], [1], [1, 0]))

    def test_other_forms(self):
        point, prices = [R(2), R(0), R(1)], [R(1), R(1)]
        for answer in (None, True, 5, "point", [], (), ("point",), ["point", point, prices], ("none", point, prices),
                       ("other", point, prices), (R(1), point, prices), (None, point, prices), (["point"], point, prices),
                       ("point", None, prices), ("point", point, True), ("point", 3, prices), ("point", "abc", prices),
                       ("point", [2, 0, 1], prices), ("point", point, [1, 1]), ("point", [R(2), False, R(1)], prices),
                       ("point", [R(2), None, R(1)], prices), ("point", [R(2), "0", R(1)], prices),
                       ("point", [R(2), [R(0)], R(1)], prices), ("point", point, [R(1), (R(1),)]), (1, 2, 3), ((), (), ()),
                       ("none", None), ("none", "ab"), (R(2), R(2))):
            self.judge(answer, False)

    def test_long_numbers(self):
        dens = [MOST - 2 * at - 1 for at in range(40)]
        point = [R(den - 1, den) for den in dens]
        self.judge(("point", point, [R(1)]), False, ([[1] * 40], [40], [1] * 40))
        far = R(MOST, 7)
        self.judge(("none", [far, far]), False, ([[1], [1]], [1, 1], [0]))
        self.judge(("none", [R(-MOST), R(MOST)]), True, ([[1], [1]], [1, 2], [0]))
        self.judge(("none", [R(-MOST), R(MOST - 1)]), True, ([[1], [1]], [1, 2], [0]))
        self.judge(("endless", [R(MOST), R(MOST - 1)], [R(MOST), R(MOST)]), True, ([[1, -1]], [1], [-1, 0]))
        self.judge(("point", [R(1, MOST), R(MOST - 1, MOST)], [R(0)]), True, ([[1, 1]], [1], [0, 0]))
        self.judge(("point", [R(1, MOST), R(MOST - 2, MOST - 1)], [R(0)]), False, ([[1, 1]], [1], [0, 0]))

    def test_changed_answers_are_refused(self):
        for seed in range(120):
            rows, sums, costs = some_program(seed)
            answer = solve_program(rows, sums, costs)
            for part in range(1, len(answer)):
                for at in range(len(answer[part])):
                    changed = [list(other) if other.__class__ is list else other for other in answer]
                    changed[part][at] = changed[part][at] + R(1, 3)
                    self.assertIs(judge_program(rows, sums, costs, tuple(changed)),
                                  is_right(rows, sums, costs, tuple(changed)))
