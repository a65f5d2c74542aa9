"""Sums of lots under shares, and whether a family bears the shares."""

from nodearer.exact.ratios import Ratio
from nodearer.looks import look_lot, look_things
from nodearer.shares.loads import MOST_WHOLE, barrier_of, look_shares, spares_of


def sum_of(family, shares, lot):
    """Return the sum of a lot."""
    look_shares(family.things, shares, MOST_WHOLE)
    looked = look_lot(family.things, lot)
    return Ratio.total([shares[thing] for thing in looked])


def barrier(family, shares):
    """Return None if the shares are borne, otherwise the first lot that exceeds, or the lot of all things."""
    parts, whole = look_shares(family.things, shares, MOST_WHOLE)
    return barrier_of(family.things, spares_of(family, parts, whole))


def shares_of(things, lot):
    """Return the shares of a single lot."""
    look_things(things)
    looked = look_lot(things, lot)
    return [Ratio(1) if thing in looked else Ratio(0) for thing in range(things)]
