"""All rings, all cuts and all flats of a family."""

from nodearer.exact.lots import all_lots
from nodearer.families.tables import is_ring, mirrored


def rings(family):
    """Return the list of all rings, in order."""
    return _rings_by(family.things, family.ranks)


def cuts(family):
    """Return the list of all cuts, in order."""
    # A mirror would have one node more, which may be too many, so only its ranks are made.
    return _rings_by(family.things, mirrored(family.things, family.ranks))


def flats(family):
    """Return the list of all lots that are equal to their span, in order."""
    return [lot for lot in all_lots(family.things) if family.span(lot) == lot]


def _rings_by(things, ranks):
    return [lot for lot in all_lots(things) if is_ring(ranks, lot)]
