"""Books: a family with wishes."""

from nodearer.errors import WishError
from nodearer.exact.ratios import scaled
from nodearer.looks import look_lot, look_size
from nodearer.shares.loads import MOST_WHOLE, barrier_of, look_borne, look_shares, spares_of

MOST_WISHES = 5


class Book:
    """A family and wishes for its things."""

    def __init__(self, family, wishes):
        look_size(len(wishes), 0, MOST_WISHES)
        for wish in wishes:
            look_size(len(wish.weights), family.things, family.things)
        if not all([wish.plain for wish in wishes]):
            for at, wish in enumerate(wishes):
                if wish.least is not None:
                    raise WishError(at)
        self.family = family
        self.wishes = tuple(wishes)
        self.deep = _depth_of(family.things, wishes)
        self.kind = _kind_of(wishes)

    def slack(self, at):
        """Return by how much a near base may miss the wish with this index."""
        look_wish(self, at)
        if self.kind == "weighted":
            return self.deep * max(1, self.wishes[at].greatest)
        return max(0, 2 * self.deep - 2 if self.kind == "both" else self.deep - 1)

    def missed(self, lot):
        """Return the list of the numbers by which a lot misses the wishes."""
        looked = look_lot(self.family.things, lot)
        return [wish.missed(looked) for wish in self.wishes]

    def keeps(self, lot):
        """Tell whether a lot is a base that keeps all wishes."""
        return self.family.is_base(lot) and not any(self.missed(lot))

    def is_near(self, lot):
        """Tell whether a lot is a base that misses each wish by at most its slack."""
        if not self.family.is_base(lot):
            return False
        return all([miss <= self.slack(at) for at, miss in enumerate(self.missed(lot))])

    def fits_shares(self, shares):
        """Tell whether shares are borne by the family and keep all wishes on average."""
        parts, whole = look_shares(self.family.things, shares, MOST_WHOLE)
        if barrier_of(self.family.things, spares_of(self.family, parts, whole)) is not None:
            return False
        return unkept_wish(self, parts, whole) is None

    def __eq__(self, other):
        return isinstance(other, Book) and self.family == other.family and self.wishes == other.wishes


def look_wish(book, at):
    """Refuse an integer that is not the index of a wish."""
    if at < 0 or at >= len(book.wishes):
        raise WishError(at)


def look_fitting(book, shares):
    """Refuse shares that do not fit a book; the shares themselves have been looked at."""
    parts, whole = scaled(shares)
    look_borne(book.family.things, spares_of(book.family, parts, whole))
    at = unkept_wish(book, parts, whole)
    if at is not None:
        raise WishError(at)


def unkept_wish(book, parts, whole):
    """Return the index of the first wish that shares in parts of a whole do not keep on average, or None."""
    for at, wish in enumerate(book.wishes):
        if not wish.allows(wish.total_of(parts), whole):
            return at
    return None


def _depth_of(things, wishes):
    return max([sum([1 for wish in wishes if wish.weights[thing]]) for thing in range(things)], default=0)


def _kind_of(wishes):
    if not all([wish.plain for wish in wishes]):
        return "weighted"
    if all([wish.least is None for wish in wishes]):
        return "most"
    return "least" if all([wish.most is None for wish in wishes]) else "both"
