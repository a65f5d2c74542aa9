"""Bases of the least cost, and papers that show that no base costs less."""

from nodearer.exact.lots import sum_of_costs
from nodearer.families.told import Told
from nodearer.judging import is_list, is_lot, is_number
from nodearer.looks import look_costs, look_number

_MOST_FLOOR = 10 ** 8
_MOST_FALLS = 20


def least_base(family, costs):
    """Return the least base: the cheapest thing first, of equal ones the least one."""
    look_costs(family.things, costs)
    return _least_base(family, costs)


def floor_paper(family, costs):
    """Return the plain floor paper, a tuple (top, falls)."""
    look_costs(family.things, costs)
    if not costs:
        return 0, []
    steps = sorted(set(costs))
    falls = []
    for low, high in zip(steps, steps[1:]):
        lot = tuple([thing for thing, cost in enumerate(costs) if cost <= low])
        falls.append((high - low, lot))
    return steps[-1], falls


def judge_floor(family, costs, floor, paper):
    """Tell whether a paper shows a floor for the costs of all bases."""
    look_costs(family.things, costs)
    look_number(floor, -_MOST_FLOOR, _MOST_FLOOR)
    if not isinstance(paper, tuple) or len(paper) != 2:
        return False
    top, falls = paper
    if not is_number(top) or not is_list(falls) or len(falls) > _MOST_FALLS:
        return False
    if not all([_is_fall(family, fall) for fall in falls]):
        return False
    for thing, cost in enumerate(costs):
        if top - sum([fall for fall, lot in falls if thing in lot]) > cost:
            return False
    ranks = [fall * family.rank_of(lot) for fall, lot in falls]
    return top * family.full - sum(ranks) >= floor


def least_family(family, costs):
    """Return the family of the bases with the least cost."""
    look_costs(family.things, costs)
    least = sum_of_costs(costs, _least_base(family, costs))
    return Told(family.things, [lot for lot in family.bases() if sum_of_costs(costs, lot) == least])


def _least_base(family, costs):
    mask = 0
    found = []
    for thing in sorted(range(family.things), key=lambda other: costs[other]):
        more = mask | (1 << thing)
        if family.ranks[more] > family.ranks[mask]:
            mask = more
            found.append(thing)
    return tuple(sorted(found))


def _is_fall(family, fall):
    """Tell whether a part of a paper is a tuple of a positive integer and a lot."""
    if not isinstance(fall, tuple) or len(fall) != 2:
        return False
    return is_number(fall[0]) and fall[0] > 0 and is_lot(family.things, fall[1])
