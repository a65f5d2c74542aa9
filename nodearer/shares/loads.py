"""Shares as integers: each share is so many parts of a whole, and the rank of a lot bears so many wholes."""

from nodearer.errors import ShareError, WeightError
from nodearer.exact.masks import lot_of_mask, place_of, sums_of_masks
from nodearer.exact.ratios import scaled
from nodearer.looks import look_number, look_size

MOST_WHOLE = 10 ** 20


def look_shares(things, shares, most):
    """Look at shares whose least common denominator is not above the most; return their parts and the whole."""
    look_size(len(shares), things, things)
    for at, share in enumerate(shares):
        if share.num < 0 or share.num > share.den:
            raise WeightError(at)
    parts, whole = scaled(shares)
    look_number(whole, 1, most)
    return parts, whole


def spares_of(family, parts, whole):
    """Return for each lot, by its mask, the parts that its rank bears above its sum."""
    borne = [rank * whole for rank in range(family.full + 1)]
    return [borne[rank] - total for rank, total in zip(family.ranks, sums_of_masks(parts))]


def barrier_of(things, spares):
    """Return the barrier, or None if the spares are those of borne shares."""
    if min(spares) < 0:
        return min([lot_of_mask(mask, things) for mask, spare in enumerate(spares) if spare < 0], key=place_of)
    return tuple(range(things)) if spares[-1] > 0 else None


def look_borne(things, spares):
    """Refuse shares that are not borne."""
    lot = barrier_of(things, spares)
    if lot is not None:
        raise ShareError(lot)


def borne_load(family, shares):
    """Look at shares that must be borne; return their parts, the whole and the spares."""
    parts, whole = look_shares(family.things, shares, MOST_WHOLE)
    spares = spares_of(family, parts, whole)
    look_borne(family.things, spares)
    return parts, whole, spares
