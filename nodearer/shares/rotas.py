"""Rotas: a base for each day, with a count of days for each thing."""

from nodearer.errors import NumberError
from nodearer.exact.masks import mask_of, sizes_of_masks
from nodearer.judging import is_list, is_lot
from nodearer.looks import look_number, look_numbers, look_size
from nodearer.shares.loads import look_borne, spares_of

_MOST_DAYS = 12


def rota(family, counts, days):
    """Return the plain rota: on each day the first base after which the days that remain still have a rota."""
    _look_rota(family, counts, days)
    look_borne(family.things, spares_of(family, counts, days))
    left = counts
    found = []
    for rest in reversed(range(days)):
        lot = _first_base(family, left, rest)
        found.append(lot)
        left = [count - 1 if thing in lot else count for thing, count in enumerate(left)]
    return found


def judge_rota(family, counts, days, lots):
    """Tell whether a list of lots is a rota."""
    _look_rota(family, counts, days)
    if not is_list(lots) or len(lots) != days:
        return False
    if not all([is_lot(family.things, lot) and family.is_base(lot) for lot in lots]):
        return False
    return all([sum([1 for lot in lots if thing in lot]) == count for thing, count in enumerate(counts)])


def _look_rota(family, counts, days):
    look_size(len(counts), family.things, family.things)
    look_numbers(counts, 0, _MOST_DAYS)
    look_number(days, 0, _MOST_DAYS)
    for count in counts:
        if count > days:
            raise NumberError(count)


def _first_base(family, left, rest):
    """Return the first base that leaves counts which have a rota for the days that rest."""
    spares = spares_of(family, left, rest)
    needs = [(mask, -spare) for mask, spare in enumerate(spares) if spare < 0]
    sizes = sizes_of_masks(family.things)
    return [lot for lot in family.bases() if _serves(mask_of(lot), needs, sizes)][0]


def _serves(base, needs, sizes):
    """Tell whether a base has as many things of each lot as that lot needs."""
    for mask, need in needs:
        if sizes[base & mask] < need:
            return False
    return True
