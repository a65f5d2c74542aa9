"""Points 3 to 5, 7, 10, 12 and 34 to 36 and the section nodearer/walks/states.py."""

from fractions import Fraction
from random import Random

from nodearer.errors import LotError, NumberError, ShareError, SizeError, WeightError, WishError
from nodearer.exact.ratios import MOST
from nodearer.families.counts import Choice, Groups
from nodearer.shares.sums import shares_of
from nodearer.walks.states import State, first_state
from nodearer.wishes.books import Book
from nodearer.wishes.wishes import Wish
from tests.plans import (FAMILIES, HALF, KINDS, SQUARE, PlanCase, R, barrier_by, borne, direction_by, fault_by, frac,
                         fracs, is_safe, loose_by, may_be, ranks_of, ratios_for, some_book, step_on, table_by)

CLOSE = Fraction(1, 10 ** 700)
PAIRS = Groups([0, 0, 1, 1], [1, 1])


def halves(things):
    return [HALF] * things


class MakingTest(PlanCase):
    def check(self, book, ranks, shares, kept):
        state = self.asked(State, book, ratios_for(shares), list(kept))
        self.assertIs(state.book, book)
        self.exact(state.shares, tuple(ratios_for(shares)))
        self.exact(state.kept, tuple(kept))
        self.exact((state.taken, state.left, state.loose), (
            tuple(x for x, share in enumerate(shares) if share == 1),
            tuple(x for x, share in enumerate(shares) if share == 0), loose_by(shares)))
        fault = fault_by(book, shares, kept)
        self.assertIs(self.asked(state.is_sound), fault is None)
        droppable = [at for at in kept if is_safe(book, shares, at)]
        self.exact(self.asked(state.droppable), droppable)
        table = table_by(book, ranks, shares, kept)
        self.exact(self.asked(state.table), table)
        direction = direction_by(book, ranks, shares, kept)
        self.exact(self.asked(state.direction), direction)
        if fault is None and state.loose and direction is None:
            self.assertNotEqual(droppable, [])
        return (fault is None, bool(droppable), len(table) > len(state.loose), direction is None)

    def test_definition(self):
        random = Random(60)
        for kind in KINDS:
            seen = set()
            for family in FAMILIES:
                ranks = ranks_of(family)
                for _ in range(8):
                    shares = borne(random, family, random.choice([1, 3, 12]))
                    book = some_book(random, family, random.choice([shares, borne(random, family, 2)]), kind)
                    kept = [at for at in range(len(book.wishes)) if random.random() < 0.7]
                    seen.add(self.check(book, ranks, shares, kept))
            self.assertEqual([{found[at] for found in seen} for at in range(4)], [{True, False}] * 4)

    def test_told(self):
        book = Book(PAIRS, [Wish([1, 0, 1, 0], most=1), Wish([0, 1, 1, 1], most=2), Wish([1, 1, 0, 0], most=1)])
        state = State(book, halves(4), [0, 2])
        self.exact(state.table(), [[1, 1, 0, 0], [0, 0, 1, 1], [1, 0, 1, 0], [1, 1, 0, 0]])
        self.exact(state.direction(), [1, -1, -1, 1])
        self.exact((state.is_sound(), state.droppable()), (True, [0, 2]))
        state = State(book, [R(1), R(0), R(1, 3), R(2, 3)], [0, 1])
        self.exact((state.taken, state.left, state.loose), ((0,), (1,), (2, 3)))
        self.exact(state.table(), [[0, 0], [0, 0], [1, 1]])
        self.exact(state.direction(), [0, 0, 1, -1])
        self.exact((state.is_sound(), state.droppable()), (False, [0, 1]))
        state = State(book, shares_of(4, [1, 2]), [1])
        self.exact((state.table(), state.direction()), ([[], [], [], [], []], None))
        self.exact(state.is_sound(), True)

    def test_dropped_wishes(self):
        # Depth 2 and both numbers: the slack is 2.
        wishes = [Wish([1, 1, 1, 1, 1, 1], most=1, least=1), Wish([1, 1, 1, 1, 1, 1], most=5, least=5)]
        book = Book(Choice(6, 3), wishes)
        shares = [R(1), R(1), HALF, HALF, R(0), R(0)]
        self.exact(State(book, shares, [0, 1]).droppable(), [])
        wishes = [Wish([1] * 6, most=2, least=0), Wish([1] * 6, most=6, least=4), Wish([0] * 6, least=0)]
        state = State(Book(Choice(6, 3), wishes), shares, [0, 1, 2])
        self.exact((state.droppable(), state.is_sound()), ([0, 1, 2], False))
        wishes = [Wish([1] * 6, most=1, least=0), Wish([1] * 6, most=6, least=5), Wish([0] * 6, least=0)]
        state = State(Book(Choice(6, 3), wishes), shares, [0, 1, 2])
        self.exact(state.droppable(), [2])
        self.exact(State(state.book, shares, []).is_sound(), False)

    def test_edges(self):
        empty = State(Book(Choice(0, 0), [Wish([], most=0), Wish([], least=1)]), [], [0])
        self.exact((empty.taken, empty.left, empty.loose, empty.table(), empty.direction()), ((), (), (), [[]], None))
        self.exact((empty.droppable(), empty.is_sound()), ([0], False))
        self.exact(State(Book(Choice(0, 0), []), (), ()).is_sound(), True)
        ten = State(Book(Choice(10, 5), [Wish([20] * 10, most=100)] * 5), halves(10), range(5))
        self.exact(ten.table(), [[1] * 10] + [[20] * 10] * 5)
        self.exact(ten.direction(), [1, -1] + [0] * 8)
        far = 10 ** 300
        state = State(Book(Choice(3, 1), [Wish([1, 0, 0], most=0)]), [R(1, far), R(far - 1, far), R(0)], [0])
        self.exact((state.loose, state.is_sound(), state.droppable()), ((0, 1), False, []))

    def test_later_changes(self):
        shares, kept = halves(4), [0]
        state = State(Book(PAIRS, [Wish([1, 0, 1, 0], most=1), Wish([1, 0, 1, 0], most=2)]), shares, kept)
        shares[0] = R(2)
        kept.append(7)
        state.table().clear()
        state.table()[0].clear()
        state.direction().clear()
        state.droppable().clear()
        self.exact((state.shares, state.kept), ((HALF,) * 4, (0,)))
        self.exact(state.table(), [[1, 1, 0, 0], [0, 0, 1, 1], [1, 0, 1, 0]])
        self.exact((state.direction(), state.droppable()), ([1, -1, -1, 1], [0]))

    def test_refusals(self):
        book = Book(SQUARE, [Wish([1] * 5, most=3)] * 3)
        self.shares_are_looked_at(lambda shares: State(book, shares, [9]), 5, 10 ** 300)
        zeros = [R(0)] * 5
        self.refused(SizeError, (6,), State, book, zeros, [9] * 6)
        for kept, at in (([3], 3), ([0, 1, 3], 3), ([-1], -1), ([0, 0], 0), ([1, 0], 0), ([0, 2, 1, 9], 1),
                         ([2, 2, -1], 2), ([7, -1], 7), ((1, 10 ** 30), 10 ** 30)):
            self.refused(WishError, (at,), State, book, zeros, kept)
        self.refused(ShareError, ((0, 1, 2, 3, 4),), State, book, zeros, [0, 2])
        self.refused(ShareError, ((0, 1, 4),), State, book, shares_of(5, [0, 1, 4]), ())


class MovingTest(PlanCase):
    def some_state(self, random, family):
        """A state with borne shares that keep the kept wishes, some of which are just met."""
        shares = borne(random, family, random.choice([1, 3]))
        book = some_book(random, family, shares)
        kept = [at for at in range(len(book.wishes)) if random.random() < 0.7]
        return State(book, ratios_for(shares), kept), shares

    def test_ahead(self):
        random = Random(61)
        seen = set()
        for family in FAMILIES:
            ranks = ranks_of(family)
            for _ in range(25):
                state, shares = self.some_state(random, family)
                if not state.loose:
                    continue
                bound = random.choice([1, 4, 10 ** 30])
                direction = [random.randint(-bound, bound) if x in state.loose else 0 for x in range(family.things)]
                own = state.direction()
                if own is not None and random.random() < 0.7:
                    direction = own
                if not any(direction):
                    continue
                told = self.asked(state.ahead, direction)
                self.exact(told.__class__, R)
                step = frac(told)
                self.assertGreaterEqual(step, 0)
                self.assertTrue(may_be(state.book, ranks, step_on(shares, direction, step), state.kept))
                over = step_on(shares, direction, step + CLOSE)
                self.assertFalse(may_be(state.book, ranks, over, state.kept))
                if direction is own:
                    self.assertGreater(step, 0)
                seen.add((step > 0, barrier_by(ranks, over) is None))
        self.assertEqual(len(seen), 4)

    def test_ahead_told(self):
        book = Book(PAIRS, [Wish([1, 0, 1, 0], most=1), Wish([0, 0, 1, 0], least=0, most=1)])
        state = State(book, [R(1, 4), R(3, 4), HALF, HALF], [0, 1])
        self.exact(state.ahead([1, -1, 0, 0]), R(1, 4))
        self.exact(State(book, state.shares, [1]).ahead((1, -1, 0, 0)), R(3, 4))
        self.exact(state.ahead([-1, 1, 0, 0]), R(1, 4))
        self.exact(state.ahead([1, -1, -1, 1]), HALF)
        self.exact(state.ahead([1, 0, -1, 0]), R(0))
        self.exact(state.ahead([-10 ** 30, 10 ** 30, 0, 0]), R(1, 4 * 10 ** 30))
        least = Book(PAIRS, [Wish([1, 1, 1, 0], least=1)])
        state = State(least, halves(4), [0])
        self.exact(state.ahead([0, 0, -1, 1]), HALF)
        self.exact(State(Book(PAIRS, [Wish([0, 1, 1, 0], least=1)]), halves(4), [0]).ahead([0, 0, -1, 1]), R(0))
        weighted = Book(Choice(2, 1), [Wish([20, 3], most=12)])
        self.exact(State(weighted, halves(2), [0]).ahead([1, -1]), R(1, 34))

    def test_ahead_refusals(self):
        book = Book(PAIRS, [Wish([1] * 4, most=2), Wish([1, 0, 0, 0], most=0), Wish([1, 0, 0, 0], most=-1)])
        state, far = State(book, [HALF, HALF, R(1), R(0)], [0, 1, 2]), 10 ** 30
        for call, more in ((state.ahead, ()), (state.moved, (R(10 ** 40),))):
            self.refused(SizeError, (3,), call, [far + 1] * 3, *more)
            self.refused(SizeError, (5,), call, [0] * 5, *more)
            self.refused(NumberError, (far + 1,), call, [0, far + 1, -far - 1, 0], *more)
            self.refused(NumberError, (-far - 1,), call, (1, far, 0, -far - 1), *more)
            self.refused(LotError, ((),), call, [0, 0, 0, 0], *more)
            self.refused(LotError, ((0, 2),), call, [far, 0, -far, 0], *more)
            self.refused(LotError, ((3,),), call, [0, 0, 0, 7], *more)
            self.refused(LotError, ((0, 1, 3),), call, [1, -1, 0, 7], *more)
        self.refused(WishError, (1,), state.ahead, [1, -1, 0, 0])
        self.refused(WishError, (2,), State(book, state.shares, [0, 2]).ahead, [1, -1, 0, 0])
        self.exact(State(book, state.shares, [0]).ahead([1, -1, 0, 0]), HALF)
        self.refused(LotError, ((),), State(Book(Choice(0, 0), [Wish([], most=-1)]), [], [0]).ahead, [])

    def test_moved(self):
        random = Random(62)
        seen = set()
        for family in FAMILIES:
            ranks = ranks_of(family)
            for _ in range(25):
                state, shares = self.some_state(random, family)
                direction = state.direction()
                if direction is None:
                    continue
                step = random.choice([-1, 1]) * Fraction(random.randint(0, 6), random.choice([1, 6, 60]))
                shares = step_on(shares, direction, step)
                args = (direction, ratios_for([step])[0])
                wrong = [at for at, share in enumerate(shares) if not 0 <= share <= 1]
                if wrong:
                    self.refused(WeightError, (wrong[0],), state.moved, *args)
                elif barrier_by(ranks, shares) is not None:
                    self.refused(ShareError, (barrier_by(ranks, shares),), state.moved, *args)
                else:
                    other = self.asked(state.moved, *args)
                    self.assertIs(other.__class__, State)
                    self.exact((other.shares, other.kept), (tuple(ratios_for(shares)), state.kept))
                    self.assertIs(other.book, state.book)
                    self.exact(other.loose, loose_by(shares))
                seen.add((bool(wrong), barrier_by(ranks, shares) is None))
        self.assertEqual(seen, {(True, False), (False, False), (False, True)})

    def test_moved_told(self):
        book = Book(PAIRS, [Wish([1, 0, 1, 0], most=1)])
        state = State(book, halves(4), [0])
        # The wish is not looked at.
        other = state.moved([1, -1, 1, -1], R(1, 2))
        self.exact((other.shares, other.kept, other.taken), ((R(1), R(0), R(1), R(0)), (0,), (0, 2)))
        self.exact(state.moved((1, -1, 0, 0), R(-1, 4)).shares, (R(1, 4), R(3, 4), HALF, HALF))
        self.exact(state.moved((1, -1, 0, 0), R(0)).shares, state.shares)
        self.refused(WeightError, (0,), state.moved, [1, -1, 0, 0], R(-1))
        self.refused(WeightError, (1,), state.moved, [0, 10 ** 30, 0, 0], R(10 ** 40))
        self.refused(WeightError, (2,), state.moved, [1, 0, -6, 6], R(1, 10))
        self.refused(ShareError, ((0, 1),), state.moved, [1, 0, -1, 0], R(1, 10))
        self.refused(ShareError, ((2, 3),), state.moved, [-1, 0, 1, 0], R(1, 10))

    def test_moved_steps(self):
        state = State(Book(PAIRS, []), halves(4), [])
        far = 10 ** 40
        self.refused(WeightError, (0,), state.moved, [1, -1, 0, 0], R(far))
        self.refused(WeightError, (0,), state.moved, [1, -1, 0, 0], R(-far))
        self.refused(NumberError, (far + 1,), state.moved, [0, 0, 0, 0], R(far + 1))
        self.refused(NumberError, (-far - 1,), state.moved, [0, 0, 1, 0], R(-far - 1))
        self.refused(NumberError, (2 * far + 1,), state.moved, [1, -1, 0, 0], R(2 * far + 1, 2))
        self.refused(WeightError, (0,), state.moved, [1, -1, 0, 0], R(2 * far - 1, 2))
        self.refused(NumberError, (10 ** 30 + 1,), state.moved, [1, 0, 0, 10 ** 30 + 1], R(far + 1))

    def test_moved_denominators(self):
        state = State(Book(PAIRS, []), halves(4), [])
        far = 10 ** 300
        other = state.moved([1, -1, 0, 0], R(1, far))
        self.exact(other.shares[0], R(far // 2 + 1, far))
        self.refused(NumberError, (2 * far,), state.moved, [1, -1, 0, 0], R(1, 2 * far))
        self.refused(NumberError, (2 * far,), state.moved, [1, 0, 0, 0], R(1, 2 * far))
        self.refused(NumberError, (2 * (far + 1),), state.moved, [1, -1, 0, 0], R(1, far + 1))
        self.exact(state.moved([10 ** 30, -10 ** 30, 0, 0], R(1, 10 ** 330)).shares[1], R(far // 2 - 1, far))
        # New shares may be no ratios at all, and what is wrong with a single one comes first.
        thirds = State(Book(PAIRS, []), [R(1, 3), R(2, 3), HALF, HALF], [])
        self.refused(NumberError, (3 * MOST,), thirds.moved, [1, -1, 0, 0], R(1, MOST))
        for sign in (1, -1):
            self.refused(WeightError, (0,), state.moved, [1, -1, 0, 0], R(sign * (10 ** 301 + 1), 10 ** 301))
        back = other.moved([1, -1, 0, 0], R(-1, far))
        self.exact(back.shares, (HALF,) * 4)

    def test_dropped(self):
        random = Random(63)
        seen = set()
        for family in FAMILIES:
            for _ in range(10):
                state, shares = self.some_state(random, family)
                for at in range(-2, len(state.book.wishes) + 2):
                    if at in state.kept and is_safe(state.book, shares, at):
                        other = self.asked(state.dropped, at)
                        self.assertIs(other.__class__, State)
                        self.assertIs(other.book, state.book)
                        self.exact((other.shares, other.kept),
                                   (state.shares, tuple(kept for kept in state.kept if kept != at)))
                        seen.add("dropped")
                    else:
                        self.refused(WishError, (at,), state.dropped, at)
                        seen.add(at in state.kept)
        self.assertEqual(seen, {"dropped", True, False})


class FirstTest(PlanCase):
    def test_definition(self):
        random = Random(64)
        for family in FAMILIES:
            for _ in range(4):
                shares = borne(random, family)
                book = some_book(random, family, shares)
                state = self.asked(first_state, book, ratios_for(shares))
                self.assertIs(state.__class__, State)
                self.assertIs(state.book, book)
                self.exact((fracs(state.shares), state.kept), (shares, tuple(range(len(book.wishes)))))
                self.assertIs(state.is_sound(), True)

    def test_refusals(self):
        book = Book(SQUARE, [Wish([1] * 5, most=3), Wish([1, 0, 0, 0, 0], most=0), Wish([0] * 5, least=1)])
        self.shares_are_looked_at(lambda shares: first_state(book, shares), 5)
        self.refused(ShareError, ((0, 1, 4),), first_state, book, shares_of(5, [0, 1, 4]))
        self.refused(ShareError, ((0, 1, 2, 3, 4),), first_state, book, shares_of(5, [0, 1]))
        self.refused(WishError, (1,), first_state, book, shares_of(5, [0, 1, 2]))
        self.refused(WishError, (2,), first_state, book, tuple(shares_of(5, [1, 2, 3])))
        self.refused(WishError, (0,), first_state, Book(Choice(0, 0), [Wish([], most=-1)]), [])
        far = 10 ** 20
        self.exact(first_state(Book(Choice(2, 1), []), [R(1, far), R(far - 1, far)]).loose, (0, 1))
