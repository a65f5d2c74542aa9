"""Points 3 to 6, 34, 38 and 39 and the section nodearer/walks/ladders.py."""

from fractions import Fraction
from math import lcm
from random import Random

from nodearer.errors import NumberError, ShareError, WishError
from nodearer.exact.ratios import MOST
from nodearer.families.counts import Choice, Groups
from nodearer.shares.sums import shares_of
from nodearer.walks.ladders import followed, judge_ladder
from nodearer.walks.walker import Walker
from nodearer.wishes.books import Book
from nodearer.wishes.wishes import Wish
from tests.plans import (FAMILIES, HALF, SQUARE, PlanCase, R, borne, frac, is_safe, loose_by, may_be, near_by,
                         ranks_of, ratio_for, ratios_for, shares_by, some_book, step_on)

PAIRS = Groups([0, 0, 1, 1], [1, 1])
COIN = Book(Choice(2, 1), [])
WAY = (1, -1)
BASE = ("base",)


def follow(book, ranks, shares, lines):
    """The found bases with their weights by point 39, for lines that have the forms of deeds; None if not right."""
    opened, found = [(Fraction(1), list(shares), list(range(len(book.wishes))))], []
    for line in lines:
        if not opened:
            return None
        weight, at, kept = opened.pop(0)
        if line[0] == "base":
            if loose_by(at):
                return None
            found.append((weight, tuple(thing for thing, share in enumerate(at) if share == 1)))
        elif line[0] == "drop":
            if line[1] not in kept or not is_safe(book, at, line[1]):
                return None
            opened.insert(0, (weight, at, [other for other in kept if other != line[1]]))
        else:
            direction, s, t = line[1], frac(line[2]), frac(line[3])
            firm = [x for x in range(len(at)) if x not in loose_by(at)]
            if not any(direction) or any(direction[x] for x in firm) or min(s, t) <= 0:
                return None
            both = [step_on(at, direction, s), step_on(at, direction, -t)]
            if not all(may_be(book, ranks, other, kept) and lcm(*[part.denominator for part in other]) <= 10 ** 300
                       for other in both):
                return None
            opened = [(weight * t / (s + t), both[0], kept), (weight * s / (s + t), both[1], kept)] + opened
    return None if opened else found


def some_ladder(random, book, ranks, shares):
    """A right ladder whose directions, steps and drops are chosen by chance, or None if the chance leads nowhere."""
    lines, opened = [], [(list(shares), list(range(len(book.wishes))))]
    while opened:
        at, kept = opened.pop(0)
        if len(lines) > 60:
            return None
        safe = [other for other in kept if is_safe(book, at, other)]
        if not loose_by(at):
            lines.append(BASE)
            continue
        line = chance_split(random, book, ranks, at, kept)
        if safe and (line is None or random.random() < 0.3):
            gone = random.choice(safe)
            lines.append(("drop", gone))
            opened.insert(0, (at, [other for other in kept if other != gone]))
        elif line is None:
            return None
        else:
            lines.append(line)
            opened[:0] = [(step_on(at, line[1], frac(line[2])), kept), (step_on(at, line[1], -frac(line[3])), kept)]
    return lines


def chance_split(random, book, ranks, at, kept):
    loose = loose_by(at)
    for _ in range(30):
        direction = [0] * len(at)
        for _ in range(random.choice([1, 1, 2])):
            one, two = random.choice(loose), random.choice(loose)
            direction[one] += 1
            direction[two] -= 1
        steps = [greatest_step(book, ranks, at, kept, [sign * entry for entry in direction]) for sign in (1, -1)]
        if any(direction) and all(steps):
            return ("split", random.choice([list, tuple])(direction), *ratios_for(steps))
    return None


def greatest_step(book, ranks, at, kept, direction):
    """The greatest of some steps that may be done, or None."""
    bounds = {(Fraction(1) if entry > 0 else Fraction(0)) - share for share, entry in zip(at, direction) if entry}
    steps = sorted({abs(bound) / scale for bound in bounds for scale in (1, 2, 3)}, reverse=True)
    return next((step for step in steps if step and may_be(book, ranks, step_on(at, direction, step), kept)), None)


class LadderCase(PlanCase):
    def check(self, book, shares, lines, wanted):
        told = self.asked(followed, book, shares, lines)
        self.exact(told, None if wanted is None else [(ratio_for(weight), lot) for weight, lot in wanted])
        self.assertIs(self.asked(judge_ladder, book, shares, lines), wanted is not None)


class RightTest(LadderCase):
    def test_ladders_of_chance(self):
        random = Random(71)
        right = 0
        for family in FAMILIES:
            ranks = ranks_of(family)
            for _ in range(8):
                shares = borne(random, family, 3)
                book = some_book(random, family, shares)
                lines = some_ladder(random, book, ranks, shares)
                if lines is None:
                    continue
                right += 1
                found = follow(book, ranks, shares, lines)
                self.check(book, ratios_for(shares), lines, found)
                near = near_by(book)
                self.assertTrue(all(lot in near for _, lot in found))
                self.assertEqual(shares_by(family.things, self.added(found)), shares)
                self.check_changed(random, book, ranks, shares, lines)
        self.assertGreater(right, 60)

    @staticmethod
    def added(found):
        table = {}
        for weight, lot in found:
            table[lot] = table.get(lot, 0) + weight
        return table

    def check_changed(self, random, book, ranks, shares, lines):
        told = ratios_for(shares)
        self.check(book, told, lines[:-1], None)
        self.check(book, told, lines + [BASE], None)
        self.check(book, told, lines + [lines[0]], None)
        at = random.randrange(len(lines))
        line = lines[at]
        others = [BASE, ("drop", random.randrange(5))]
        if line[0] == "split":
            others += [("split", line[1], line[3], line[2]), ("split", [-x for x in line[1]], *line[2:]),
                       ("split", line[1], line[2] * 2, line[3]), ("split", line[1], HALF, line[3])]
        for other in others:
            changed = lines[:at] + [other] + lines[at + 1:]
            self.check(book, told, changed, follow(book, ranks, shares, changed))
        fewer = lines[:at] + lines[at + 1:]
        self.check(book, told, tuple(fewer), follow(book, ranks, shares, fewer))

    def test_told(self):
        shares = [R(1, 3), R(2, 3)]
        self.check(COIN, shares, [("split", WAY, R(2, 3), R(1, 3)), BASE, BASE],
                   [(Fraction(1, 3), (0,)), (Fraction(2, 3), (1,))])
        self.check(COIN, shares, (("split", [-2, 2], R(1, 6), R(1, 3)), BASE, BASE),
                   [(Fraction(2, 3), (1,)), (Fraction(1, 3), (0,))])
        steps = [("split", WAY, R(1, 6), R(1, 3)), ("split", WAY, HALF, HALF), BASE, BASE, BASE]
        self.check(COIN, shares, steps, [(Fraction(1, 3), (0,)), (Fraction(1, 3), (1,)), (Fraction(1, 3), (1,))])
        for lines in ([], steps[:1], steps[:2], steps[:3], steps[:4], steps + [BASE], steps[1:], [BASE] + steps,
                      [steps[0]] + steps, steps + steps, [("drop", 0)] + steps):
            self.check(COIN, shares, lines, None)
        self.check(COIN, shares_of(2, [1]), [BASE], [(Fraction(1), (1,))])
        self.check(Book(Choice(0, 0), []), [], [BASE], [(Fraction(1), ())])
        self.check(Book(Choice(0, 0), [Wish([], most=0)]), [], [("drop", 0), BASE], [(Fraction(1), ())])
        self.check(Book(Choice(0, 0), [Wish([], most=0)]), [], [("drop", 0)] * 2 + [BASE], None)

    def test_dropping(self):
        book = Book(PAIRS, [Wish([1, 0, 1, 0], most=1), Wish([1, 1, 0, 0], most=1)])
        shares = [HALF] * 4
        split, end = ("split", (1, -1, 0, 0), HALF, HALF), [("split", (0, 0, 1, -1), HALF, HALF), BASE, BASE] * 2
        self.check(book, shares, [split] + end, None)
        found = [(Fraction(1, 4), lot) for lot in ((0, 2), (0, 3), (1, 2), (1, 3))]
        self.check(book, shares, [("drop", 0), split] + end, found)
        self.check(book, shares, [("drop", 0), split, ("drop", 1)] + end, found)
        self.check(book, shares, [("drop", 0), ("drop", 1), split] + end, found)
        self.check(book, shares, [("drop", 0), ("drop", 0), split] + end, None)
        self.check(book, shares, [("drop", 2), ("drop", 0), split] + end, None)
        narrow = Book(PAIRS, [Wish([1, 0, 1, 0], most=1)])
        self.check(narrow, shares, [("drop", 0), split] + end, None)


class FormTest(LadderCase):
    def test_other_forms(self):
        shares, split = [R(1, 3), R(2, 3)], ("split", WAY, R(2, 3), R(1, 3))
        self.check(COIN, shares, [split, BASE, BASE], [(Fraction(1, 3), (0,)), (Fraction(2, 3), (1,))])
        for lines in (None, True, 3, "base", R(1), BASE, split, [split, BASE], [list(split), BASE, BASE],
                      [split, ["base"], BASE], [split, "base", "base"], [split, None, BASE], [split, BASE, None],
                      [split, BASE, 3], [split, BASE, R(1)], [split, BASE, ()], [split, BASE, ("base", 1)],
                      [split, BASE, True], [("split", WAY, R(2, 3), 1), BASE, BASE], [split, BASE, BASE, None],
                      [("split", "1-", R(2, 3), R(1, 3)), BASE, BASE],
                      [("split", (True, -1), R(2, 3), R(1, 3)), BASE, BASE],
                      [("drop", True)], [("drop", None)], [("drop", R(0))], [(R(1),)], [([],)], [((),)], [(None, 1)]):
            self.check(COIN, shares, lines, None)

    def test_number_of_lines(self):
        book = Book(Choice(2, 1), [Wish([1, 1], most=5)])
        for many, drops in ((59999, [("drop", 0)]), (60000, [])):
            # Each split leaves a base and a little less of thing 0.
            whole, lines = many + 1, list(drops)
            for left in range(many, 0, -1):
                lines += [("split", WAY, R(whole - left, whole), R(1, whole)), BASE]
            lines.append(BASE)
            right = len(lines) == 120000
            self.assertEqual(right, bool(drops))
            shares = [R(many, whole), R(1, whole)]
            self.assertIs(judge_ladder(book, shares, lines), right)
            found = followed(book, shares, lines)
            wanted = [(R(1, at * (at + 1)), (0,)) for at in range(1, whole)] + [(R(1, whole), (1,))]
            # Lists of this length are too long for a comparison that shows where they differ.
            self.assertTrue(found == wanted if right else found is None)

    def test_denominators_of_shares(self):
        shares = [R(1, 2), R(1, 2)]
        for den, right in ((10 ** 300, True), (10 ** 300 + 1, False), (2 * 10 ** 300, False)):
            step = R(1, den)
            lines = [("split", WAY, HALF, step), BASE, ("split", WAY, HALF + step, HALF - step), BASE, BASE]
            self.assertIs(judge_ladder(COIN, shares, lines), right)
            self.assertIs(followed(COIN, shares, lines) is None, not right)

    def test_directions(self):
        shares, far = [HALF, HALF], 10 ** 1000
        for entry, right in ((far, True), (-far, True), (far + 1, False), (-far - 1, False)):
            step = R(1, 2 * abs(entry))
            lines = [("split", [entry, -entry], step, step), BASE, BASE]
            self.assertIs(judge_ladder(COIN, shares, lines), right)


class GreatWeightsTest(LadderCase):
    def ladder(self, steps):
        """Splits at thing 0, each in the first state of the one before, and what ends all states; no step ends one."""
        lines, at, left = [], Fraction(1, 2), []
        for ahead, back in steps:
            lines.append(("split", WAY, ratio_for(ahead), ratio_for(back)))
            left.append(at - back)
            at += ahead
        for share in [at] + left[::-1]:
            lines += [("split", WAY, ratio_for(1 - share), ratio_for(share)), BASE, BASE]
        return lines

    def first_too_great(self, steps):
        weight = Fraction(1)
        for ahead, back in steps:
            for part in (back / (ahead + back), ahead / (ahead + back)):
                if (weight * part).denominator > MOST:
                    return weight * part
            weight *= back / (ahead + back)
        return None

    def check_great(self, steps, wanted):
        lines = self.ladder(steps)
        self.assertIs(judge_ladder(COIN, [HALF, HALF], lines), True)
        self.refused(NumberError, (wanted,), followed, COIN, [HALF, HALF], lines)
        # A ladder that is not right is told before that.
        for wrong in (lines[:-1], lines + [BASE], lines[:-1] + [("drop", 0)]):
            self.check(COIN, [HALF, HALF], wrong, None)

    def test_denominator(self):
        small = Fraction(1, 10 ** 300)
        steps = [(Fraction(1, 2 ** (at + 2)), small) for at in range(7)]
        weight = self.first_too_great(steps)
        self.assertEqual((weight.numerator, self.first_too_great(steps[:6])), (1, None))
        self.check_great(steps, weight.denominator)
        found = followed(COIN, [HALF, HALF], self.ladder(steps[:6]))
        self.assertEqual(sum(frac(part) for part, lot in found if lot == (0,)), Fraction(1, 2))

    def test_second_state(self):
        small = Fraction(1, 10 ** 300)
        steps = [(Fraction(1, 2 ** (at + 2)), small) for at in range(6)] + [(small, Fraction(1, 3))]
        weight = self.first_too_great(steps)
        first = Fraction(1)
        for ahead, back in steps:
            first *= back / (ahead + back)
        self.assertNotEqual(weight, None)
        self.check_great(steps, weight.numerator if weight.numerator > MOST else weight.denominator)

    def test_numerator_first(self):
        steps = [(Fraction(1, 10 ** 280), Fraction(1, at + 3)) for at in range(9)]
        weight = self.first_too_great(steps)
        self.assertGreater(weight.numerator, MOST)
        self.check_great(steps, weight.numerator)



    def test_at_the_bound(self):
        """The last state has a share with 10 ** 290 below, and the weight 1 / 10 ** 1710 or the next smaller one."""
        for last in (288, 289):
            way = [(Fraction(1, 100), Fraction(1, 10 ** digits)) for digits in [100] * 14 + [22, last]]
            steps = [(whole * (1 - part), whole * part) for whole, part in way]
            lines = self.ladder(steps)
            if last == 288:
                found = followed(COIN, [HALF, HALF], lines)
                self.assertEqual(max(weight.den for weight, _ in found), MOST)
                self.exact(found, [(ratio_for(weight), lot) for weight, lot in follow(
                    COIN, ranks_of(COIN.family), [Fraction(1, 2)] * 2, lines)])
            else:
                self.assertIs(judge_ladder(COIN, [HALF, HALF], lines), True)
                self.refused(NumberError, (10 ** 2002,), followed, COIN, [HALF, HALF], lines)


class RefusalTest(LadderCase):
    def test_refusals(self):
        book = Book(SQUARE, [Wish([1] * 5, most=3), Wish([1, 0, 0, 0, 0], most=0), Wish([0] * 5, least=1)])
        for call in (judge_ladder, followed):
            for lines in ([], None, [BASE]):
                self.shares_are_looked_at(lambda shares: call(book, shares, lines), 5)
                self.refused(ShareError, ((0, 1, 4),), call, book, shares_of(5, [0, 1, 4]), lines)
                self.refused(ShareError, ((0, 1, 2, 3, 4),), call, book, shares_of(5, [0, 1]), lines)
                self.refused(WishError, (1,), call, book, shares_of(5, [0, 1, 2]), lines)
                self.refused(WishError, (2,), call, book, tuple(shares_of(5, [1, 2, 3])), lines)

    def test_lists_are_new(self):
        lines = [BASE]
        followed(COIN, shares_of(2, [1]), lines).clear()
        self.exact(followed(COIN, shares_of(2, [1]), lines), [(R(1), (1,))])
        walker = Walker(COIN, [HALF, HALF])
        walker.run()
        self.exact(followed(COIN, (HALF, HALF), tuple(walker.ladder())), walker.found())
