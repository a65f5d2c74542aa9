"""Points 3 to 6, 34 to 37 and 39 and the section nodearer/walks/deeds.py."""

from fractions import Fraction
from random import Random

from nodearer.errors import WishError
from nodearer.exact.ratios import MOST
from nodearer.families.counts import Choice, Groups
from nodearer.shares.sums import shares_of
from nodearer.walks.deeds import deed, done
from nodearer.walks.states import State
from nodearer.walks.walker import Walker
from nodearer.wishes.books import Book
from nodearer.wishes.wishes import Wish
from tests.plans import (FAMILIES, HALF, PlanCase, R, borne, direction_by, fault_by, frac, fracs, is_safe, loose_by,
                         may_be, ranks_of, ratios_for, some_book, step_on)

CLOSE = Fraction(1, 10 ** 300)
PAIRS = Groups([0, 0, 1, 1], [1, 1])
AHEAD, BACK = (1, -1, 0, 0), (-1, 1, 0, 0)


def some_states(random, family):
    """States of walks, and behind them two states with fewer kept wishes, which need not be sound."""
    shares = borne(random, family)
    book = some_book(random, family, shares)
    walker = Walker(book, ratios_for(shares))
    states = []
    while not walker.ended and walker.steps < 30:
        states.append(walker.open_states()[0][1])
        walker.step()
    some = [random.choice(states), states[0]]
    return states + [State(book, state.shares, [at for at in state.kept if random.random() < 0.5]) for state in some]


class DeedTest(PlanCase):
    def test_definition(self):
        random = Random(65)
        seen = set()
        for family in FAMILIES:
            ranks = ranks_of(family)
            for _ in range(6):
                for state in some_states(random, family):
                    seen.add(self.check(state, ranks))
        self.assertEqual(seen, {"base", "split", "drop", None})

    def check(self, state, ranks):
        shares = fracs(state.shares)
        fault = fault_by(state.book, shares, state.kept)
        if fault is not None:
            self.refused(WishError, (fault,), deed, state)
            return None
        line = self.asked(deed, state)
        direction = direction_by(state.book, ranks, shares, state.kept)
        if not loose_by(shares):
            self.exact(line, ("base",))
        elif direction is None:
            self.exact(line, ("drop", min(at for at in state.kept if is_safe(state.book, shares, at))))
        else:
            self.exact(line[:2], ("split", tuple(direction)))
            self.assertEqual(len(line), 4)
            for sign, step in ((1, line[2]), (-1, line[3])):
                self.exact(step.__class__, R)
                self.assertGreater(frac(step), 0)
                self.assertTrue(may_be(state.book, ranks, step_on(shares, direction, sign * frac(step)), state.kept))
                over = step_on(shares, direction, sign * (frac(step) + CLOSE))
                self.assertFalse(may_be(state.book, ranks, over, state.kept))
        return line[0]

    def test_told(self):
        book = Book(PAIRS, [Wish([1, 0, 1, 0], most=1), Wish([1, 0, 0, 0], most=1)])
        self.exact(deed(State(book, [R(1, 4), R(3, 4), HALF, HALF], [0])), ("split", AHEAD, R(1, 4), R(1, 4)))
        self.exact(deed(State(book, [HALF] * 4, [0, 1])), ("split", (1, -1, -1, 1), HALF, HALF))
        self.exact(deed(State(book, shares_of(4, [1, 2]), [0, 1])), ("base",))
        self.exact(deed(State(Book(Choice(0, 0), []), [], [])), ("base",))

    def test_dropping_the_least(self):
        # Both kept wishes are just met and leave no direction; the wishes 1 and 2 may be dropped.
        wishes = [Wish([1, 1], most=1), Wish([2, 1], most=9), Wish([3, 1], most=2), Wish([5, 1], most=3)]
        state = State(Book(Choice(2, 1), wishes), [HALF, HALF], [2, 3])
        self.exact((state.direction(), state.droppable(), deed(state)), (None, [2, 3], ("drop", 2)))
        state = State(state.book, state.shares, [0, 1, 3])
        self.exact(deed(state), ("drop", 0))

    def test_first_fault(self):
        wishes = [Wish([1, 1], most=1), Wish([3, 0], most=1), Wish([0, 1], most=0), Wish([0, 1], most=-5)]
        book = Book(Choice(2, 1), wishes)
        for kept, at in (([0, 1, 2, 3], 1), ([0], 3), ([0, 2], 2), ([2, 3], 2), ([0, 3], 3)):
            self.refused(WishError, (at,), deed, State(book, [HALF, HALF], kept))
        # A dropped wish makes a state unsound although all kept ones are kept.
        self.refused(WishError, (3,), deed, State(book, [R(0), R(1)], [0]))


class DoneTest(PlanCase):
    def check(self, state, line, wanted):
        """The states that replace the state, told by their shares, kept wishes and parts; None for a wrong line."""
        told = self.asked(done, state, line)
        if told is None or wanted is None:
            self.assertIs(told, wanted)
            return
        self.assertIs(told.__class__, list)
        self.exact([part for part, _ in told], [part for part, _, _ in wanted])
        for (_, other), (_, shares, kept) in zip(told, wanted):
            self.assertIs(other.__class__, State)
            self.assertIs(other.book, state.book)
            self.exact((other.shares, other.kept), (tuple(shares), tuple(kept)))

    def split(self, state, direction, ahead, back):
        shares, s, t = fracs(state.shares), frac(ahead), frac(back)
        one, two = ratios_for([t / (s + t), s / (s + t)])
        return [(one, ratios_for(step_on(shares, direction, s)), state.kept),
                (two, ratios_for(step_on(shares, direction, -t)), state.kept)]

    def test_deeds(self):
        random = Random(66)
        seen = set()
        for family in FAMILIES:
            for _ in range(5):
                for state in some_states(random, family)[:-2]:
                    line = deed(state)
                    seen.add(line[0])
                    if line[0] == "base":
                        self.check(state, line, [])
                    elif line[0] == "drop":
                        kept = [at for at in state.kept if at != line[1]]
                        self.check(state, line, [(R(1), state.shares, kept)])
                    else:
                        self.check(state, line, self.split(state, *line[1:]))
                        self.check(state, ("split", list(line[1]), *line[2:]), self.split(state, *line[1:]))
        self.assertEqual(seen, {"base", "split", "drop"})

    def test_other_lines(self):
        random = Random(67)
        seen = set()
        for family in FAMILIES:
            ranks = ranks_of(family)
            for _ in range(6):
                for state in some_states(random, family)[-5:]:
                    seen.add(self.check_chance(random, state, ranks))
        self.assertEqual(seen, {None, True, False})

    def check_chance(self, random, state, ranks):
        shares = fracs(state.shares)
        for at in range(-1, 6):
            right = at in state.kept and is_safe(state.book, shares, at)
            kept = [other for other in state.kept if other != at]
            self.check(state, ("drop", at), [(R(1), state.shares, kept)] if right else None)
        self.check(state, ("base",), None if state.loose else [])
        if not state.loose:
            return None
        direction = state.direction() or [0] * len(shares)
        if random.random() < 0.5:
            direction = [random.randint(-1, 1) if x in state.loose else 0 for x in range(len(shares))]
        scale = random.choice([1, -1, 3])
        direction = [scale * entry for entry in direction]
        ahead, back = R(random.randint(1, 3), random.choice([3, 30])), R(1, random.choice([2, 20, 10 ** 50]))
        right = any(direction) and may_be(state.book, ranks, step_on(shares, direction, frac(ahead)), state.kept) \
            and may_be(state.book, ranks, step_on(shares, direction, -frac(back)), state.kept)
        wanted = self.split(state, direction, ahead, back) if right else None
        self.check(state, ("split", direction, ahead, back), wanted)
        return bool(right)

    def test_states_need_not_be_sound(self):
        book = Book(PAIRS, [Wish([1, 0, 0, 0], most=-9), Wish([1, 1, 1, 1], most=2)])
        state = State(book, [HALF] * 4, [1])
        self.check(state, ("split", AHEAD, HALF, HALF), self.split(state, AHEAD, HALF, HALF))
        self.check(state, ("drop", 0), None)
        self.check(State(book, shares_of(4, [0, 2]), [1]), ("base",), [])
        # A kept wish that is not kept on average forbids every split, but no base.
        self.check(State(book, [HALF] * 4, [0, 1]), ("split", AHEAD, R(1, 9), R(1, 9)), None)
        self.check(State(book, shares_of(4, [0, 2]), [0, 1]), ("base",), [])

    def test_conditions_of_a_split(self):
        book = Book(PAIRS, [Wish([1, 0, 1, 0], most=1), Wish([0, 0, 1, 0], most=1)])
        state = State(book, [R(1, 4), R(3, 4), HALF, HALF], [0, 1])
        self.check(state, ("split", AHEAD, R(1, 4), R(1, 4)), self.split(state, AHEAD, R(1, 4), R(1, 4)))
        self.check(state, ("split", AHEAD, R(1, 100), R(1, 7)), self.split(state, AHEAD, R(1, 100), R(1, 7)))
        self.check(state, ("split", BACK, R(1, 4), R(1, 4)), self.split(state, BACK, R(1, 4), R(1, 4)))
        self.check(state, ("split", (-5, 5, 5, -5), R(1, 20), R(1, 10)),
                   self.split(state, (-5, 5, 5, -5), R(1, 20), R(1, 10)))
        near = R(1, 4) + R(1, 10 ** 100)
        for line in (("split", AHEAD, near, R(1, 4)), ("split", AHEAD, R(1, 4), near),
                     ("split", BACK, near, R(1, 4)), ("split", BACK, R(1, 4), near),
                     ("split", (1, 0, 0, 0), R(1, 9), R(1, 9)), ("split", (1, 0, -1, 0), R(1, 9), R(1, 9)),
                     ("split", (0, 0, 0, 0), R(1, 9), R(1, 9)), ("split", (0, 0, 1, -1), R(1, 3), R(1, 3)),
                     ("split", AHEAD, R(0), R(1, 4)), ("split", AHEAD, R(1, 4), R(0)),
                     ("split", AHEAD, R(-1, 9), R(1, 9)), ("split", AHEAD, R(1, 9), R(-1, 9)),
                     ("split", BACK, R(-1, 9), R(-1, 9)), ("split", AHEAD, R(MOST), R(1, 4))):
            self.check(state, line, None)
        taken = State(book, [R(1), R(0), R(1, 4), R(3, 4)], [1])
        for direction in (AHEAD, (-1, 1, 1, -1), (0, 1, 1, -1), (1, 0, 1, -1)):
            self.check(taken, ("split", direction, R(1, 9), R(1, 9)), None)
        self.check(taken, ("split", (0, 0, 1, -1), R(1, 9), R(1, 9)),
                   self.split(taken, (0, 0, 1, -1), R(1, 9), R(1, 9)))

    def test_bounds(self):
        state, far = State(Book(PAIRS, []), [HALF] * 4, []), 10 ** 1000
        for entry, wanted in ((far, True), (-far, True), (far + 1, False), (-far - 1, False)):
            direction = (entry, -entry, 0, 0)
            step = R(1, 5 * max(direction))
            right = self.split(state, direction, step, step) if wanted else None
            self.check(state, ("split", direction, step, step), right)
        whole = 10 ** 300
        for den, wanted in ((whole, True), (2 * whole, False), (whole + 1, False)):
            for steps in ((R(1, den), HALF), (HALF, R(1, den))):
                self.check(state, ("split", AHEAD, *steps), self.split(state, AHEAD, *steps) if wanted else None)
        steps = (R(1, far * whole), R(3, far * whole))
        self.check(state, ("split", (far, -far, 0, 0), *steps), self.split(state, (far, -far, 0, 0), *steps))
        state = State(state.book, [R(1, whole), R(whole - 1, whole), HALF, HALF], [])
        self.check(state, ("split", AHEAD, R(1, 3), R(1, whole)), None)
        self.check(state, ("split", AHEAD, HALF, R(1, whole)), self.split(state, AHEAD, HALF, R(1, whole)))

    def test_other_forms(self):
        book = Book(PAIRS, [Wish([1, 1, 1, 1], most=3)] * 2)
        state = State(book, [HALF] * 4, [0, 1])
        split = ("split", AHEAD, HALF, HALF)
        self.check(state, split, self.split(state, AHEAD, HALF, HALF))
        self.check(state, ("drop", 1), [(R(1), state.shares, [0])])
        for line in (None, True, 0, 1, "base", "drop", R(1), [], (), list(split), ["drop", 1], ("drop",),
                     ("drop", 1, 1), ("drop", True), ("drop", False), ("drop", None), ("drop", R(1)), ("drop", "1"),
                     ("drop", [1]), ("drop", 2), ("drop", -1), ("drop", 10 ** 3000), ("base",), ("base", 1),
                     ("split",), split[:3], split + (1,), (1,), (None,), ([],), (R(1),), (True, 1), (None, 1),
                     ("Drop", 1), (["drop"], 1), ("base", AHEAD, HALF, HALF), ("drop", AHEAD, HALF, HALF), (split,),
                     ("drop ", 1)):
            self.check(state, line, None)
        for at, parts in ((1, (None, True, 1, "1-00", R(1), (), (1, -1), (1, -1, 0), (1, -1, 0, 0, 0),
                               (True, -1, 0, 0), (1, -1, False, 0), (1, -1, None, 0), (R(1), -1, 0, 0),
                               ("1", -1, 0, 0), ([1], -1, 0, 0))),
                          (2, (None, True, 1, "1/2", [HALF], (1, 2), 0)), (3, (None, True, 1, "1/2", (HALF,), -1))):
            for part in parts:
                self.check(state, split[:at] + (part,) + split[at + 1:], None)
        corner = State(book, shares_of(4, [0, 2]), [0, 1])
        self.check(corner, ("base",), [])
        for line in (["base"], "base", ("base", 0), ("Base",), (["base"],), split, None, ()):
            self.check(corner, line, None)

    def test_no_things(self):
        state = State(Book(Choice(0, 0), [Wish([], most=0)]), [], [0])
        self.check(state, ("base",), [])
        self.check(state, ("drop", 0), [(R(1), (), ())])
        self.check(state, ("split", (), HALF, HALF), None)

    def test_new_lists(self):
        state = State(Book(PAIRS, []), [HALF] * 4, [])
        done(state, ("split", AHEAD, HALF, HALF)).clear()
        self.assertEqual(len(done(state, ("split", AHEAD, HALF, HALF))), 2)
