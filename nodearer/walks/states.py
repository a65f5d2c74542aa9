"""States of a walk: shares, and the wishes that are still kept."""

from nodearer.errors import LotError, NumberError, WeightError, WishError
from nodearer.exact.elimination import direction_of, divided
from nodearer.exact.ratios import Ratio, least_quotient, ratio_of
from nodearer.looks import look_number, look_numbers, look_size
from nodearer.shares.blocks import blocks_of
from nodearer.shares.loads import MOST_WHOLE, look_borne, look_shares, spares_of
from nodearer.shares.reach import bounds_ahead
from nodearer.wishes.books import MOST_WISHES, look_fitting

_MOST_WHOLE = (10 ** 50) ** 6
_MOST_ENTRY = 10 ** 30
_MOST_STEP = 10 ** 40


class State:
    """Borne shares of the family of a book, and the indexes of the wishes that are kept."""

    def __init__(self, book, shares, kept):
        things = book.family.things
        parts, whole = look_shares(things, shares, _MOST_WHOLE)
        _look_kept(book, kept)
        look_borne(things, spares_of(book.family, parts, whole))
        self.book = book
        self.shares = tuple(shares)
        self.kept = tuple(kept)
        self.taken = tuple([thing for thing in range(things) if parts[thing] == whole])
        self.left = tuple([thing for thing in range(things) if parts[thing] == 0])
        self.loose = tuple([thing for thing in range(things) if 0 < parts[thing] < whole])
        self.parts = tuple(parts)
        self.whole = whole

    def is_sound(self):
        """Tell whether the shares keep the kept wishes and no base can miss a dropped one by more than its slack."""
        return self.fault() is None

    def droppable(self):
        """Return the list of the indexes of the wishes that may be dropped."""
        return [at for at in self.kept if self.is_safe(at)]

    def table(self):
        """Return the table of the state, with a column for each loose thing."""
        return self.table_by(self.spares())

    def direction(self):
        """Return the direction, or None if there is none."""
        return self.direction_by(self.spares())

    def ahead(self, direction):
        """Return the step ahead in a direction."""
        self._look_direction(direction)
        self._look_loose(direction)
        at = self.unkept()
        if at is not None:
            raise WishError(at)
        return self.step_by(self.spares(), direction)

    def moved(self, direction, step):
        """Return the state whose shares are moved by a step in a direction."""
        self._look_direction(direction)
        if abs(step.num) > _MOST_STEP * step.den:
            raise NumberError(step.num)
        self._look_loose(direction)
        return self.shifted(direction, step)

    def dropped(self, at):
        """Return the state that does not keep a wish any more."""
        if at not in self.droppable():
            raise WishError(at)
        return State(self.book, self.shares, [other for other in self.kept if other != at])

    def unkept(self):
        """Return the first kept wish that the shares do not keep on average, or None."""
        for at in self.kept:
            if not self.is_met(at):
                return at
        return None

    def fault(self):
        """Return the first wish for which the state is not sound, or None."""
        for at in range(len(self.book.wishes)):
            if not (self.is_met(at) if at in self.kept else self.is_safe(at)):
                return at
        return None

    def is_met(self, at):
        """Tell whether the shares keep a wish on average."""
        wish = self.book.wishes[at]
        return wish.allows(wish.total_of(self.parts), self.whole)

    def is_safe(self, at):
        """Tell whether a wish is missed by at most its slack, whichever loose things are chosen."""
        wish = self.book.wishes[at]
        slack = self.book.slack(at)
        low = wish.count_of(self.taken)
        if wish.most is not None and low + wish.count_of(self.loose) > wish.most + slack:
            return False
        return wish.least is None or low >= wish.least - slack

    def spares(self):
        """Return for each lot, by its mask, what its rank bears above its sum.

        They take longer to make and more room than all the rest, so they are neither made twice for one deed nor kept.
        """
        return spares_of(self.book.family, self.parts, self.whole)

    def table_by(self, spares):
        """Return the table of the state, whose spares are given."""
        rows = [[1 if thing in block else 0 for thing in self.loose]
                for block in blocks_of(self.book.family.things, spares)]
        for at in self.kept:
            wish = self.book.wishes[at]
            if wish.is_just_met(wish.total_of(self.parts), self.whole):
                rows.append([wish.weights[thing] for thing in self.loose])
        return rows

    def direction_by(self, spares):
        """Return the direction of the state, whose spares are given, or None if there is none."""
        entries = direction_of(self.table_by(spares), len(self.loose))
        if entries is None:
            return None
        direction = [0] * self.book.family.things
        for thing, entry in zip(self.loose, entries):
            direction[thing] = entry
        return direction

    def step_by(self, spares, direction):
        """Return the step ahead in a direction that has been looked at, in the state whose spares are given."""
        bounds = bounds_ahead(spares, direction)
        for at in self.kept:
            wish = self.book.wishes[at]
            total = wish.total_of(self.parts)
            more = wish.total_of(direction)
            if more > 0 and wish.most is not None:
                bounds.append((wish.most * self.whole - total, more))
            if more < 0 and wish.least is not None:
                bounds.append((total - wish.least * self.whole, -more))
        num, den = least_quotient(bounds)
        return ratio_of(num, den * self.whole)

    def shifted(self, direction, step):
        """Return the state whose shares are moved, for any numbers in the direction and the step."""
        whole = self.whole * step.den
        parts = [part * step.den + entry * step.num * self.whole for part, entry in zip(self.parts, direction)]
        for at, part in enumerate(parts):
            if part < 0 or part > whole:
                raise WeightError(at)
        lowest = divided([whole] + parts)
        look_number(lowest[0], 1, _MOST_WHOLE)
        return State(self.book, [Ratio(part, lowest[0]) for part in lowest[1:]], self.kept)

    def _look_direction(self, direction):
        look_size(len(direction), self.book.family.things, self.book.family.things)
        look_numbers(direction, -_MOST_ENTRY, _MOST_ENTRY)

    def _look_loose(self, direction):
        lot = tuple([thing for thing, entry in enumerate(direction) if entry])
        if not lot or not all([thing in self.loose for thing in lot]):
            raise LotError(lot)


def first_state(book, shares):
    """Return the state with shares that fit the book, which keeps all wishes."""
    look_shares(book.family.things, shares, MOST_WHOLE)
    look_fitting(book, shares)
    return State(book, shares, list(range(len(book.wishes))))


def _look_kept(book, kept):
    """Refuse indexes that are not those of wishes, in ascending order."""
    look_size(len(kept), 0, MOST_WISHES)
    last = -1
    for at in kept:
        if at <= last or at >= len(book.wishes):
            raise WishError(at)
        last = at
