"""What the tests of shares, wishes, walks and prices have in common: their definitions, worked out over fractions."""

from fractions import Fraction
from math import ceil, floor, lcm

from nodearer.errors import NumberError, ShareError, SizeError, WeightError
from nodearer.exact.ratios import MOST, Ratio
from nodearer.families.built import Both, Short
from nodearer.families.counts import Choice, Groups
from nodearer.families.rooms import Rooms
from nodearer.families.seats import Seats
from nodearer.families.told import Told
from nodearer.families.turned import Minor, Mirror
from nodearer.families.vectors import Vectors
from nodearer.families.webs import Web
from nodearer.wishes.books import Book
from nodearer.wishes.wishes import Wish
from tests.helpers import Case, subsets

R = Ratio
HALF = Ratio(1, 2)
SQUARE = Web(4, [(0, 1), (1, 2), (2, 3), (3, 0), (0, 2)])
FANO = Vectors([[1, 0, 0], [0, 1, 0], [0, 0, 1], [1, 1, 0], [0, 1, 1], [1, 0, 1], [1, 1, 1]], 2)
FAMILIES = [
    Choice(0, 0), Choice(4, 2), Choice(3, 0), Choice(3, 3), Groups([0, 1, 0, 1, 2, 1], [1, 2, 0]),
    Rooms(5, [([0, 1, 2], 2), ([0, 1], 1), ([3], 0), ([3, 4], 5)]), SQUARE, Web(3, [(0, 1), (0, 1), (1, 1), (1, 2)]),
    Vectors([[1, 2], [2, 4], [0, 1], [0, 0], [3, 1]]), FANO, Seats(3, [[0], [0, 1], [1], [], [1, 2], [2]]),
    Told(4, [[0, 1], [2, 3], [0, 3], [1, 2], [0, 2]]), Both(Choice(3, 1), Web(3, [(0, 1), (1, 2), (2, 0)])),
    Short(SQUARE, 2), Mirror(SQUARE), Minor(FANO, [2], [6]), Mirror(Both(Choice(2, 1), Minor(SQUARE, [4], [])))]


def frac(ratio):
    return Fraction(ratio.num, ratio.den)


def fracs(ratios):
    return [frac(ratio) for ratio in ratios]


def ratio_for(fraction):
    return Ratio(fraction.numerator, fraction.denominator)


def ratios_for(fractions):
    return [ratio_for(Fraction(fraction)) for fraction in fractions]


def ranks_of(family):
    """The rank of each lot, in the order of lots, by the bases."""
    bases = [set(base) for base in family.bases()]
    return {lot: max(len(base & set(lot)) for base in bases) for lot in subsets(family.things)}


def total(shares, lot):
    return sum([shares[thing] for thing in lot], Fraction(0))


def barrier_by(ranks, shares, wholes=1):
    """The barrier of point 25, or with wholes of point 29; None if there is none."""
    for lot, rank in ranks.items():
        if total(shares, lot) > wholes * rank:
            return lot
    everything = list(ranks)[-1]
    return everything if total(shares, everything) < wholes * ranks[everything] else None


def tight_by(ranks, shares):
    return [lot for lot, rank in ranks.items() if total(shares, lot) == rank]


def blocks_by(ranks, shares):
    """The chain and the blocks of point 26."""
    tight = tight_by(ranks, shares)
    chain = [()]
    while chain[-1] != tight[-1]:
        chain.append(next(lot for lot in tight if set(chain[-1]) < set(lot)))
    return chain, [tuple(sorted(set(more) - set(less))) for less, more in zip(chain, chain[1:])]


def mixed(random, bases, most=12):
    """A mixture of some of the bases: a dict of fractions."""
    lots = random.sample(bases, random.randint(1, min(len(bases), 4)))
    parts = [random.randint(1, most) for _ in lots]
    return {lot: Fraction(part, sum(parts)) for lot, part in zip(lots, parts)}


def shares_by(things, mixture):
    return [sum([weight for lot, weight in mixture.items() if thing in lot], Fraction(0)) for thing in range(things)]


def borne(random, family, most=12):
    """Borne shares, as fractions."""
    return shares_by(family.things, mixed(random, list(family.bases()), most))


def table_of(mixture):
    """The pairs of a mixture as a dict of fractions; no lot stands twice."""
    table = {lot: frac(weight) for weight, lot in mixture.pairs}
    assert len(table) == len(mixture.pairs)
    return table


def is_mixture_of(mixture, lots, shares):
    """Whether a mixture has lots among these only, positive weights with the sum 1, and these shares."""
    table = table_of(mixture)
    return (set(table) <= set(lots) and min(table.values()) > 0 and sum(table.values()) == 1
            and shares_by(mixture.things, table) == list(shares) and fracs(mixture.shares) == list(shares)
            and [lot for _, lot in mixture.pairs] == sorted(table, key=lambda lot: (len(lot), lot)))


def whole_of(ratios):
    """The least common denominator."""
    return lcm(*[ratio.den for ratio in ratios])


class PlanCase(Case):
    def shares_are_looked_at(self, call, things, most=10 ** 20):
        """The call, which takes nothing but shares, looks at them by points 4, 5 and 10; things is at least 2."""
        rest = [R(0)] * (things - 2)
        self.refused(SizeError, (things - 1,), call, [R(-1)] * (things - 1))
        self.refused(SizeError, (things + 1,), call, [R(2)] * (things + 1))
        self.refused(SizeError, (0,), call, [])
        self.refused(WeightError, (0,), call, [R(-1, MOST), R(2)] + rest)
        self.refused(WeightError, (1,), call, tuple([R(1), R(MOST, MOST - 1)] + rest))
        self.refused(WeightError, (things - 1,), call, rest + [R(1, most + 1), R(-1, 3)])
        self.refused(NumberError, (most + 1,), call, [R(1, most + 1), R(1)] + rest)
        self.refused(NumberError, (most * (most - 1),), call, rest + [R(1, most), R(1, most - 1)])
        self.refused(NumberError, (MOST * (MOST - 1),), call, [R(1, MOST), R(1, MOST - 1)] + rest)
        self.refused(NumberError, (MOST,), call, [R(0), R(MOST - 1, MOST)] + rest)

    def borne_shares_are_needed(self, call, things):
        """The call, which takes nothing but shares of a family that is not free of rank, needs borne ones."""
        self.shares_are_looked_at(call, things)
        self.refused(ShareError, (tuple(range(things)),), call, [R(0)] * things)


def count_by(wish, lot):
    return sum(wish.weights[thing] for thing in set(lot))


def missed_by(wish, count):
    """By how much a count, or a mean count, misses a wish (point 30)."""
    over = count - wish.most if wish.most is not None else 0
    under = wish.least - count if wish.least is not None else 0
    return max(0, over, under)


def depth_by(book):
    return max([sum(wish.weights[thing] > 0 for wish in book.wishes) for thing in range(book.family.things)], default=0)


def kind_by(book):
    if any(weight > 1 for wish in book.wishes for weight in wish.weights):
        return "weighted"
    if all(wish.least is None for wish in book.wishes):
        return "most"
    return "least" if all(wish.most is None for wish in book.wishes) else "both"


def slack_by(book, at):
    """The slack of point 32."""
    depth, kind = depth_by(book), kind_by(book)
    if kind == "weighted":
        return depth * max(1, *book.wishes[at].weights, 0)
    return max(0, 2 * depth - 2) if kind == "both" else max(0, depth - 1)


def near_by(book):
    """The near bases of a book."""
    return [base for base in book.family.bases()
            if all(missed_by(wish, count_by(wish, base)) <= slack_by(book, at) for at, wish in enumerate(book.wishes))]


def keepers_by(book):
    return [base for base in book.family.bases()
            if not any(missed_by(wish, count_by(wish, base)) for wish in book.wishes)]


def mean_by(wish, shares):
    return sum([weight * share for weight, share in zip(wish.weights, shares)], Fraction(0))


def misfit(book, shares):
    """The index of the first wish that shares do not keep on average, or None."""
    for at, wish in enumerate(book.wishes):
        if missed_by(wish, mean_by(wish, shares)):
            return at
    return None


KINDS = ("most", "least", "both", "weighted")


def some_wish(random, shares, kind):
    """A wish that the shares keep on average, as often as not with no room; plain unless the kind is weighted."""
    heavy = random.choice([2, 5, 20]) if kind == "weighted" else 1
    dense = random.choice([0.4, 1])
    weights = [random.randint(0, heavy) if random.random() < dense else 0 for _ in shares]
    mean = sum([weight * share for weight, share in zip(weights, shares)], Fraction(0))
    sides = {"most": "m", "least": "l", "weighted": "m"}.get(kind) or random.choice(["m", "l", "ml"])
    most = ceil(mean) + random.choice([0, 0, 0, 1]) if "m" in sides else None
    least = floor(mean) - random.choice([0, 0, 0, 1]) if "l" in sides else None
    return Wish(weights, most=most, least=least)


def some_book(random, family, shares, kind=None):
    """A book that borne shares fit."""
    kind = kind or random.choice(KINDS)
    return Book(family, [some_wish(random, shares, kind) for _ in range(random.choice([0, 1, 1, 2, 3, 5]))])


def lowered(random, book):
    """The book with other numbers, which it may be impossible to keep."""
    wishes = []
    for wish in book.wishes:
        most = None if wish.most is None else wish.most - random.choice([0, 1, 2])
        least = None if wish.least is None else min(wish.least + random.choice([0, 1]), 1000 if most is None else most)
        wishes.append(Wish(wish.weights, most=most, least=least))
    return Book(book.family, wishes)


def kernel_by(rows, width):
    """The direction of point 12: the least column that is a combination of those before, and the combination."""
    for column in range(width):
        lines = [[Fraction(entry) for entry in row[:column + 1]] for row in rows]
        pivots = []
        for at in range(column):
            # All columns before this one are independent, so each one has a pivot.
            pivot = next(line for line in lines if line[at] and line not in pivots)
            lines = [line if line is pivot else
                     [x - line[at] / pivot[at] * y for x, y in zip(line, pivot)] for line in lines]
            pivots = [[x - line[at] / pivot[at] * y for x, y in zip(line, pivot)] for line in pivots]
            pivots.append(pivot)
            lines = [line for line in lines if line is not pivot]
        if not any(line[column] for line in lines):
            entries = [-line[column] / line[at] for at, line in enumerate(pivots)] + [Fraction(1)]
            scale = lcm(*[entry.denominator for entry in entries])
            scale = scale if next(entry for entry in entries if entry) > 0 else -scale
            return [int(entry * scale) for entry in entries] + [0] * (width - column - 1)
    return None


def loose_by(shares):
    return tuple(thing for thing, share in enumerate(shares) if 0 < share < 1)


def is_safe(book, shares, at):
    """The conditions of point 34 for a wish that is dropped."""
    wish, slack = book.wishes[at], slack_by(book, at)
    low = count_by(wish, [thing for thing, share in enumerate(shares) if share == 1])
    high = low + count_by(wish, loose_by(shares))
    return (wish.most is None or high <= wish.most + slack) and (wish.least is None or low >= wish.least - slack)


def fault_by(book, shares, kept):
    """The first wish for which a state is not sound, or None."""
    for at, wish in enumerate(book.wishes):
        fine = not missed_by(wish, mean_by(wish, shares)) if at in kept else is_safe(book, shares, at)
        if not fine:
            return at
    return None


def table_by(book, ranks, shares, kept):
    """The table of point 35."""
    loose = loose_by(shares)
    rows = [[1 if thing in block else 0 for thing in loose] for block in blocks_by(ranks, shares)[1]]
    for at in kept:
        wish = book.wishes[at]
        if mean_by(wish, shares) in (wish.most, wish.least):
            rows.append([wish.weights[thing] for thing in loose])
    return rows


def direction_by(book, ranks, shares, kept):
    loose = loose_by(shares)
    entries = kernel_by(table_by(book, ranks, shares, kept), len(loose))
    if entries is None:
        return None
    told = dict(zip(loose, entries))
    return [told.get(thing, 0) for thing in range(len(shares))]


def may_be(book, ranks, shares, kept):
    """Whether shares are borne and keep all kept wishes on average."""
    return barrier_by(ranks, shares) is None and not any(missed_by(book.wishes[at], mean_by(book.wishes[at], shares))
                                                         for at in kept)


def step_on(shares, direction, step):
    return [share + step * entry for share, entry in zip(shares, direction)]


def fine_shares(random, family):
    """Borne shares with a least common denominator near 10 ** 20; the family has more than 20 bases."""
    far = 10 ** 20 - random.randrange(1000)
    cuts = sorted([random.randrange(1, far) for _ in range(20)])
    parts = [high - low for low, high in zip([0] + cuts, cuts + [far])]
    bases = random.sample(list(family.bases()), len(parts))
    return shares_by(family.things, {base: Fraction(part, far) for base, part in zip(bases, parts)})


def great_case(random, family, kind):
    """A book of this kind with five wishes, and fine shares that fit it."""
    shares = fine_shares(random, family)
    book = Book(family, [])
    while (book.kind, len(book.wishes)) != (kind, 5):
        book = Book(family, [some_wish(random, shares, kind) for _ in range(5)])
    return book, shares


def some_prices(random, book, fit=True):
    """Prices as fractions; all of them fit the book, or they are of any sign."""
    prices = []
    for wish in book.wishes:
        signs = [0] + ([1] if wish.most is not None else []) + ([-1] if wish.least is not None else [])
        sign = random.choice(signs if fit else [-1, 0, 1])
        prices.append(sign * Fraction(random.randint(1, 9), random.randint(1, 6)))
    return prices


def unfit_by(book, prices):
    """The index of the first price that does not fit by point 41, or None."""
    for at, (wish, price) in enumerate(zip(book.wishes, prices)):
        if (price > 0 and wish.most is None) or (price < 0 and wish.least is None):
            return at
    return None


def charge_by(book, prices, lot):
    """The charge of point 41."""
    charge = Fraction(0)
    for wish, price in zip(book.wishes, prices):
        if price:
            charge += price * (count_by(wish, lot) - (wish.most if price > 0 else wish.least))
    return charge


def floor_by(book, costs, prices):
    return min(sum(costs[thing] for thing in base) + charge_by(book, prices, base) for base in book.family.bases())
