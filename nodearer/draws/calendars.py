"""Calendars: the lots of a mixture spread evenly over the days of its period."""

from nodearer.draws.tapes import MOST_DRAWN
from nodearer.exact.ratios import scaled
from nodearer.looks import look_number, look_thing

_MOST_DAYS = 400


class Calendar:
    """One lot of a mixture for each day of its period."""

    def __init__(self, mixture):
        parts, period = scaled([weight for weight, _ in mixture.pairs])
        look_number(period, 1, _MOST_DAYS)
        self.mixture = mixture
        self.days = period
        self.order = _order_of([lot for _, lot in mixture.pairs], parts, period)

    def __len__(self):
        return len(self.order)

    def __iter__(self):
        return iter(self.order)

    def day(self, number):
        """Return the lot of a day, counted on beyond the period."""
        look_number(number, 0, MOST_DRAWN)
        return self.order[number % self.days]

    def counts(self, days):
        """Return for each lot of the mixture on how many of the first days it is there."""
        look_number(days, 0, self.days)
        return [(lot, self.order[:days].count(lot)) for _, lot in self.mixture.pairs]

    def of_thing(self, thing):
        """Return the list of the days whose lots have a thing."""
        look_thing(self.mixture.things, thing)
        return [day for day, lot in enumerate(self.order) if thing in lot]


def _order_of(lots, parts, period):
    """Return the lots of all days, each lot on as many days as it has parts of the period."""
    gone = [0] * len(lots)
    order = []
    for day in range(period):
        # A lot without days to come is never ready: its next day would be behind the last one.
        ready = [at for at, part in enumerate(parts) if gone[at] * period // part <= day]
        # The latest day of the next day of a lot is just before this quotient, rounded up.
        at = min(ready, key=lambda other: -(-(gone[other] + 1) * period // parts[other]))
        gone[at] += 1
        order.append(lots[at])
    return tuple(order)
