"""Points 3 to 5, 10, 34 to 38 and the section nodearer/walks/walker.py."""

from fractions import Fraction
from random import Random

from nodearer.errors import HistoryError, NumberError, ShareError, WishError
from nodearer.families.counts import Choice, Groups
from nodearer.shares.sums import shares_of
from nodearer.walks.deeds import deed
from nodearer.walks.ladders import followed, judge_ladder
from nodearer.walks.states import State
from nodearer.walks.walker import Walker
from nodearer.wishes.books import Book
from nodearer.wishes.wishes import Wish
from tests.plans import (FAMILIES, HALF, KINDS, SQUARE, PlanCase, R, borne, frac, fracs, great_case, near_by,
                         ratio_for, ratios_for, shares_by, some_book, step_on)

PAIRS = Groups([0, 0, 1, 1], [1, 1])


def replaced(weight, shares, kept, line):
    """The states that replace a state by point 37, with their weights; none for a base."""
    if line[0] == "base":
        return []
    if line[0] == "drop":
        return [(weight, shares, [at for at in kept if at != line[1]])]
    direction, s, t = line[1], frac(line[2]), frac(line[3])
    return [(weight * t / (s + t), step_on(shares, direction, s), kept),
            (weight * s / (s + t), step_on(shares, direction, -t), kept)]


class WalkCase(PlanCase):
    def same(self, walker, opened, found, lines):
        """A walker tells these open states, found bases and lines."""
        told = self.asked(walker.open_states)
        self.assertTrue(all(state.__class__ is State and state.book is walker.book for _, state in told))
        self.exact([weight for weight, _ in told], ratios_for([weight for weight, _, _ in opened]))
        self.assertEqual([(fracs(state.shares), list(state.kept)) for _, state in told],
                         [(shares, kept) for _, shares, kept in opened])
        self.exact(self.asked(walker.found), [(ratio_for(weight), lot) for weight, lot in found])
        self.exact(self.asked(walker.ladder), lines)
        self.exact((walker.steps, walker.ended), (len(lines), not opened))

    def walk(self, book, shares):
        """Follow a walk step by step beside the definition of point 38; return its walker."""
        walker = self.asked(Walker, book, ratios_for(shares))
        opened, found, lines = [(Fraction(1), list(shares), list(range(len(book.wishes))))], [], []
        while opened:
            if len(lines) < 40 or len(lines) > 2000:
                self.same(walker, opened, found, lines)
            weight, at, kept = opened.pop(0)
            line = walker.step()
            self.exact(line, deed(State(book, ratios_for(at), kept)))
            lines.append(line)
            others = replaced(weight, at, kept, line)
            opened = others + opened
            if not others:
                found.append((weight, tuple(thing for thing, share in enumerate(at) if share == 1)))
            if len(lines) % 7 == 0:
                self.adds_up(walker, shares)
        self.same(walker, opened, found, lines)
        return walker

    def adds_up(self, walker, shares):
        """The second and the third sentence of what point 38 says of any time."""
        total = [Fraction(0) for _ in shares]
        for weight, state in walker.open_states():
            self.assertIs(state.is_sound(), True)
            total = step_on(total, fracs(state.shares), frac(weight))
        for weight, lot in walker.found():
            total = step_on(total, shares_by(len(shares), {lot: 1}), frac(weight))
        self.assertEqual(total, list(shares))


class WalkerTest(WalkCase):
    def test_definition(self):
        random = Random(68)
        seen = set()
        for kind in KINDS:
            for family in FAMILIES:
                shares = borne(random, family)
                book = some_book(random, family, shares, kind)
                walker = self.walk(book, shares)
                near = near_by(book)
                self.assertTrue(all(lot in near and weight.num > 0 for weight, lot in walker.found()))
                self.assertEqual(sum(frac(weight) for weight, _ in walker.found()), 1)
                self.adds_up(walker, shares)
                seen |= {line[0] for line in walker.ladder()}
                self.assertIs(judge_ladder(book, ratios_for(shares), walker.ladder()), True)
                self.exact(followed(book, ratios_for(shares), walker.ladder()), walker.found())
        self.assertEqual(seen, {"base", "split", "drop"})

    def test_told(self):
        book = Book(Choice(3, 1), [])
        walker = Walker(book, (HALF, R(1, 3), R(1, 6)))
        self.assertIs(walker.book, book)
        self.exact((walker.shares, walker.steps, walker.ended), ((HALF, R(1, 3), R(1, 6)), 0, False))
        self.exact(walker.step(), ("split", (1, -1, 0), R(1, 3), HALF))
        self.exact([(weight, state.shares) for weight, state in walker.open_states()],
                   [(R(3, 5), (R(5, 6), R(0), R(1, 6))), (R(2, 5), (R(0), R(5, 6), R(1, 6)))])
        self.exact(walker.run(), 6)
        self.exact(walker.found(), [(HALF, (0,)), (R(1, 10), (2,)), (R(1, 3), (1,)), (R(1, 15), (2,))])
        self.exact([line[0] for line in walker.ladder()], ["split", "split", "base", "base", "split", "base", "base"])
        self.exact((walker.steps, walker.ended, walker.run()), (7, True, 0))

    def test_run(self):
        random = Random(69)
        for family in FAMILIES:
            shares = ratios_for(borne(random, family))
            book = some_book(random, family, [frac(share) for share in shares])
            whole, parts = Walker(book, shares), Walker(book, shares)
            steps = whole.run()
            self.exact((steps, whole.ended, whole.steps), (len(whole.ladder()), True, steps))
            self.exact((parts.run(0), parts.steps, parts.ended), (0, 0, False))
            done = 0
            while not parts.ended:
                most = random.randint(0, 5)
                told = parts.run(most)
                self.exact(told, min(most, steps - done))
                done += told
                self.exact((parts.steps, parts.ladder()), (done, whole.ladder()[:done]))
            self.exact(done, steps)
            self.exact((parts.run(0), parts.run(), parts.run(120000)), (0, 0, 0))
            self.exact((parts.found(), parts.ladder(), parts.open_states()), (whole.found(), whole.ladder(), []))

    def test_refused_runs_change_nothing(self):
        walker = Walker(Book(PAIRS, []), [HALF] * 4)
        walker.run(2)
        for most in (-1, 120001, 10 ** 40):
            self.refused(NumberError, (most,), walker.run, most)
        self.exact((walker.steps, len(walker.open_states())), (2, 3))
        self.exact(walker.run(120000), 5)
        self.refused(NumberError, (-1,), walker.run, -1)
        self.refused(HistoryError, (), walker.step)
        self.exact((walker.steps, walker.run()), (7, 0))
        walker = Walker(Book(Choice(0, 0), []), [])
        self.exact((walker.step(), walker.ended, walker.found()), (("base",), True, [(R(1), ())]))
        self.refused(HistoryError, (), walker.step)

    def test_bases_are_found_again(self):
        walker = Walker(Book(Choice(3, 1), []), [R(1, 3)] * 3)
        walker.run()
        lots = [lot for _, lot in walker.found()]
        self.assertGreater(len(lots), len(set(lots)))

    def test_lists_are_new(self):
        shares = [HALF] * 4
        walker = Walker(Book(PAIRS, []), shares)
        shares[0] = R(1)
        walker.run(4)
        told = [list(call()) for call in (walker.open_states, walker.found, walker.ladder)]
        self.assertTrue(all(told))
        for call in (walker.open_states, walker.found, walker.ladder):
            call().clear()
        self.exact(walker.shares, (HALF,) * 4)
        self.exact((walker.found(), walker.ladder(), len(walker.open_states())), (told[1], told[2], len(told[0])))
        walker.run()
        self.assertEqual(sum(frac(weight) for weight, _ in walker.found()), 1)

    def test_states_stay(self):
        walker = Walker(Book(PAIRS, [Wish([1, 0, 1, 0], most=1)] * 2), [HALF] * 4)
        first = walker.open_states()[0][1]
        walker.run()
        self.exact((first.shares, first.kept), ((HALF,) * 4, (0, 1)))

    def test_refusals(self):
        book = Book(SQUARE, [Wish([1] * 5, most=3), Wish([1, 0, 0, 0, 0], most=0), Wish([0] * 5, least=1)])
        self.shares_are_looked_at(lambda shares: Walker(book, shares), 5)
        self.refused(ShareError, ((0, 1, 4),), Walker, book, shares_of(5, [0, 1, 4]))
        self.refused(WishError, (1,), Walker, book, shares_of(5, [0, 1, 2]))
        self.refused(WishError, (2,), Walker, book, tuple(shares_of(5, [1, 2, 3])))

    def test_great_walks(self):
        """Many things, five wishes and shares with a least common denominator near 10 ** 20."""
        random = Random(70)
        groups = Groups([0] * 5 + [1] * 5, [2, 3])
        for kind, family in (("both", Choice(10, 5)), ("least", groups), ("most", Choice(10, 4)),
                             ("weighted", Choice(8, 4))):
            book, shares = great_case(random, family, kind)
            walker = Walker(book, ratios_for(shares))
            self.assertLessEqual(walker.run(), 120000)
            self.assertIs(walker.ended, True)
            self.adds_up(walker, shares)
            near = near_by(book)
            self.assertTrue(all(lot in near for _, lot in walker.found()))
            self.assertIs(judge_ladder(book, ratios_for(shares), walker.ladder()), True)
            self.exact(followed(book, ratios_for(shares), walker.ladder()), walker.found())
