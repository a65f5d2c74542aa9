"""Tight lots, and the blocks of which they consist."""

from nodearer.exact.masks import lot_of_mask, place_of
from nodearer.shares.loads import borne_load


def tight_lots(family, shares):
    """Return the list of all tight lots, in order."""
    return _tight_of(family.things, borne_load(family, shares)[2])


def chain(family, shares):
    """Return the chain: each next lot is the first tight one that contains the lot before and is larger."""
    return _chain_of(family.things, borne_load(family, shares)[2])


def blocks(family, shares):
    """Return the blocks, in the order of the chain."""
    return blocks_of(family.things, borne_load(family, shares)[2])


def blocks_of(things, spares):
    """Return the blocks of borne shares with these spares."""
    lots = _chain_of(things, spares)
    return [tuple([thing for thing in more if thing not in less]) for less, more in zip(lots, lots[1:])]


def _tight_of(things, spares):
    lots = [lot_of_mask(mask, things) for mask, spare in enumerate(spares) if spare == 0]
    return sorted(lots, key=place_of)


def _chain_of(things, spares):
    found = [()]
    # A larger lot comes later in the order of lots, so one walk through the tight lots finds the whole chain.
    for lot in _tight_of(things, spares):
        last = found[-1]
        if len(lot) > len(last) and all([thing in lot for thing in last]):
            found.append(lot)
    return found
