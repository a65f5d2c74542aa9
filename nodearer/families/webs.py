"""Webs: ties between places, of which no lot with a closed walk is free."""

from nodearer.errors import NumberError
from nodearer.families.family import Family
from nodearer.looks import look_number, look_numbers, look_size

_MOST_PLACES = 11
_MOST_TIES = 10


class Web(Family):
    """The family of the lots of ties without a closed walk."""

    def __init__(self, places, ties):
        look_number(places, 0, _MOST_PLACES)
        look_size(len(ties), 0, _MOST_TIES)
        for tie in ties:
            look_size(len(tie), 2, 2)
            look_numbers(tie, 0, _MOST_PLACES - 1)
        self.places = places
        self.ties = tuple([tuple(tie) for tie in ties])
        for tie in self.ties:
            for place in tie:
                if place >= places:
                    raise NumberError(place)
        Family.__init__(self, len(self.ties), _ranks(places, self.ties), 1)


def _ranks(places, ties):
    """Return the ranks: each tie of a free lot lowers the number of parts that are not joined by one."""
    marks = [tuple(range(places))]
    for one, two in ties:
        marks = marks + [_tied(mark, one, two) for mark in marks]
    return [places - len(set(mark)) for mark in marks]


def _tied(mark, one, two):
    """Return the marks of the places, equal for places that are joined, after one more tie."""
    return tuple([mark[one] if other == mark[two] else other for other in mark])
