"""Told families: the bases are the lots of a list."""

from nodearer.errors import ExchangeError
from nodearer.families.exchange import failure_among, look_alike_lots
from nodearer.families.family import Family
from nodearer.families.tables import ranks_of_bases
from nodearer.looks import look_things


class Told(Family):
    """The family whose bases are the lots of a list."""

    def __init__(self, things, lots):
        look_things(things)
        told = look_alike_lots(things, lots)
        failure = failure_among(things, told)
        if failure is not None:
            first, second, thing = failure
            raise ExchangeError(first, second, thing)
        self.lots = tuple(told)
        Family.__init__(self, things, ranks_of_bases(things, told), 1)


def told_copy(family):
    """Return the told family with the bases of a family."""
    return Told(family.things, list(family.bases()))
