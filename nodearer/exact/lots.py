"""Lots: sets of things, told as tuples in ascending order."""

from nodearer.exact.masks import lots_of_size
from nodearer.looks import look_costs, look_lot, look_things


def lot_of(things, entries):
    """Return the lot of a list of things."""
    look_things(things)
    return look_lot(things, entries)


def all_lots(things):
    """Return the list of all lots, in order."""
    look_things(things)
    return [lot for size in range(things + 1) for lot in lots_of_size(things, size)]


def joined(things, first, second):
    """Return the lot of the things that are in at least one of two lots."""
    one, two = _look_two(things, first, second)
    return tuple(sorted(set(one + two)))


def common(things, first, second):
    """Return the lot of the things that are in both lots."""
    one, two = _look_two(things, first, second)
    return tuple([thing for thing in one if thing in two])


def without(things, first, second):
    """Return the lot of the things that are in the first lot but not in the second one."""
    one, two = _look_two(things, first, second)
    return tuple([thing for thing in one if thing not in two])


def cost_of(things, costs, lot):
    """Return the cost of a lot."""
    look_things(things)
    look_costs(things, costs)
    return sum_of_costs(costs, look_lot(things, lot))


def sum_of_costs(costs, lot):
    """Return the cost of different things that have been looked at."""
    return sum([costs[thing] for thing in lot])


def _look_two(things, first, second):
    look_things(things)
    return look_lot(things, first), look_lot(things, second)
