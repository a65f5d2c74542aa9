"""Works: jobs on machines with different times, and the fast plan for a table of times."""

from nodearer.errors import GapError, LotError
from nodearer.families.counts import Groups
from nodearer.families.family import MOST_THINGS
from nodearer.fronts.front import Front
from nodearer.looks import MOST_COST, look_lot, look_number, look_numbers, look_rows, look_size, look_widths
from nodearer.prices.settle import value_of
from nodearer.wishes.books import Book
from nodearer.wishes.wishes import Wish

_MOST_JOBS = 10
_MOST_MACHINES = 5
_MOST_TIME = 20
_MOST_LIMIT = 200
_MOST_ROWS = 10


class Works(Front):
    """Each job is to be done on one machine, and no machine is to work longer than a limit."""

    def __init__(self, times, limit, *, costs=None):
        _look_times(times)
        look_number(limit, 1, _MOST_LIMIT)
        if costs is not None:
            look_rows(costs, _MOST_ROWS, _MOST_ROWS, MOST_COST)
        look_widths(times, len(times[0]))
        pairs = _open_pairs(times, limit)
        if costs is not None:
            look_size(len(costs), len(times), len(times))
            look_widths(costs, len(times[0]))
        self.times = tuple([tuple(row) for row in times])
        self.limit = limit
        self.open_pairs = tuple(pairs)
        paid = [0 if costs is None else costs[job][machine] for job, machine in pairs]
        Front.__init__(self, _book_of(self.times, limit, pairs), paid)

    def laying(self, lot):
        """Return the list of the machines, one for each job, in a base."""
        looked = look_lot(self.book.family.things, lot)
        if not self.book.family.is_base(looked):
            raise LotError(looked)
        return [self.open_pairs[thing][1] for thing in looked]

    def loads(self, lot):
        """Return the list of the loads of the machines."""
        looked = look_lot(self.book.family.things, lot)
        return [wish.count_of(looked) for wish in self.book.wishes]

    def end(self, lot):
        """Return the greatest load."""
        return max(self.loads(lot))

    def words(self, lot):
        """Return a string for each pair of a lot."""
        looked = look_lot(self.book.family.things, lot)
        pairs = [self.open_pairs[thing] for thing in looked]
        return [f"job {job} on machine {machine} for {self.times[job][machine]}" for job, machine in pairs]


class Fast:
    """The works with the least limit that is not refused, and the plan that ends soon after it."""

    def __init__(self, works, refusal, settlement):
        self.works = works
        self.limit = works.limit
        self.refusal = refusal
        self.settlement = settlement
        self.machines = tuple(works.laying(settlement.plan))
        self.done_by = works.end(settlement.plan)


def fast(times):
    """Return the fast plan for a table of times."""
    _look_times(times)
    look_widths(times, len(times[0]))
    _open_pairs(times, _MOST_LIMIT)
    # Below this limit some job has no open pair. The greatest limit lets all jobs be done on any machines.
    low = max([min([time for time in row if time]) for row in times])
    limit = _least_limit(times, low)
    refusal = Works(times, limit - 1).solve() if limit > low else None
    works = Works(times, limit)
    return Fast(works, refusal, works.solve())


def _look_times(times):
    look_size(len(times), 1, _MOST_JOBS)
    for row in times:
        look_size(len(row), 1, _MOST_MACHINES)
        look_numbers(row, 0, _MOST_TIME)


def _open_pairs(times, limit):
    """Return the list of the open pairs; refuse a job without one, and too many of them."""
    pairs = []
    for job, row in enumerate(times):
        machines = [machine for machine, time in enumerate(row) if 0 < time <= limit]
        if not machines:
            raise GapError(job)
        pairs.extend([(job, machine) for machine in machines])
    look_size(len(pairs), 0, MOST_THINGS)
    return pairs


def _book_of(times, limit, pairs):
    """Return the book in which each job takes one pair and each machine wishes for the limit at most."""
    family = Groups([job for job, _ in pairs], [1] * len(times))
    wishes = []
    for wished in range(len(times[0])):
        weights = [times[job][machine] if machine == wished else 0 for job, machine in pairs]
        wishes.append(Wish(weights, most=limit))
    return Book(family, wishes)


def _least_limit(times, low):
    """Return the least limit from the low one for which the book is not refused."""
    high = _MOST_LIMIT
    while low < high:
        middle = (low + high) // 2
        works = Works(times, middle)
        if value_of(works.book, works.costs) is None:
            low = middle + 1
        else:
            high = middle
    return low
