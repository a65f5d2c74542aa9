"""How far borne shares can go in a direction."""

from nodearer.exact.masks import sums_of_masks
from nodearer.exact.ratios import Ratio, least_quotient
from nodearer.looks import look_numbers, look_size
from nodearer.shares.loads import MOST_WHOLE, borne_load, look_borne, look_shares, spares_of

_MOST_ENTRY = 10 ** 6


def reach(family, shares, direction):
    """Return the reach in a direction, or None if the direction consists of zeros."""
    parts, whole = look_shares(family.things, shares, MOST_WHOLE)
    look_size(len(direction), family.things, family.things)
    look_numbers(direction, -_MOST_ENTRY, _MOST_ENTRY)
    spares = spares_of(family, parts, whole)
    look_borne(family.things, spares)
    if not any(direction):
        return None
    num, den = least_quotient(bounds_ahead(spares, direction))
    return Ratio(num, den * whole)


def is_corner(family, shares):
    """Tell whether borne shares are those of a single base."""
    parts, whole, _ = borne_load(family, shares)
    return all([part in (0, whole) for part in parts])


def bounds_ahead(spares, direction):
    """Return pairs of integers; their least quotient is the number of parts that can be gone in a direction.

    The direction does not consist of zeros.
    """
    if sum(direction):
        return [(0, 1)]
    return [(spare, total) for spare, total in zip(spares, sums_of_masks(direction)) if total > 0]
