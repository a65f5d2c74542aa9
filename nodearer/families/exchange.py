"""Exchanging things between bases."""

from nodearer.errors import LotError, ThingError
from nodearer.exact.masks import lot_of_mask, mask_of
from nodearer.looks import look_lot, look_size, look_thing, look_things

_MOST_LOTS = 300


def partner(family, first, second, thing):
    """Return the least thing of the second base that can be exchanged for a thing of the first one."""
    one, two = _look_bases(family, first, second, thing)
    if thing not in one or thing in two:
        raise ThingError(thing)
    return _partner_of(family, mask_of(one), mask_of(two), thing)


def path(family, first, second):
    """Return the list of the bases from one base to another one that partners make."""
    one, two = _look_bases(family, first, second, None)
    mask = mask_of(one)
    goal = mask_of(two)
    found = [one]
    while mask != goal:
        thing = lot_of_mask(mask & ~goal, family.things)[0]
        mask = mask ^ (1 << thing) ^ (1 << _partner_of(family, mask, goal, thing))
        found.append(lot_of_mask(mask, family.things))
    return found


def first_failure(things, lots):
    """Return the first failure (first, second, thing) of the exchange of things among lots, or None."""
    look_things(things)
    return failure_among(things, look_alike_lots(things, lots))


def look_alike_lots(things, lots):
    """Look at lots with the same number of things; return the different ones, in order."""
    look_size(len(lots), 1, _MOST_LOTS)
    looked = [look_lot(things, lot) for lot in lots]
    for lot in looked:
        if len(lot) != len(looked[0]):
            raise LotError(lot)
    return sorted(set(looked))


def failure_among(things, lots):
    """Return the first failure among different lots in order, all with the same number of things, or None."""
    told = [False] * (1 << things)
    for lot in lots:
        told[mask_of(lot)] = True
    masks = [mask_of(lot) for lot in lots]
    for first in lots:
        swaps = [(thing, _serving(things, told, mask_of(first), thing)) for thing in first]
        for second, mask in zip(lots, masks):
            for thing, serving in swaps:
                if not serving & mask:
                    return first, second, thing
    return None


def _serving(things, told, mask, thing):
    """Return the mask of the things that can stand in a lot in the place of a thing, itself included."""
    less = mask ^ (1 << thing)
    return sum([1 << other for other in range(things) if not (less >> other) & 1 and told[less | (1 << other)]])


def _look_bases(family, first, second, thing):
    """Look at two bases, and at a thing unless it is None; return the lots of the bases."""
    one = look_lot(family.things, first)
    two = look_lot(family.things, second)
    if thing is not None:
        look_thing(family.things, thing)
    for lot in (one, two):
        if len(lot) != family.full or family.ranks[mask_of(lot)] != family.full:
            raise LotError(lot)
    return one, two


def _partner_of(family, first, second, thing):
    """Return the partner of a thing for the masks of two bases."""
    one = first ^ (1 << thing)
    two = second | (1 << thing)
    partners = [other for other in lot_of_mask(second & ~first, family.things)
                if family.ranks[one | (1 << other)] == family.full
                and family.ranks[two ^ (1 << other)] == family.full]
    return partners[0]
