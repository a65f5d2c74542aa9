"""Families that are built of others by putting them side by side or by taking fewer things."""

from nodearer.errors import NumberError
from nodearer.families.family import MOST_THINGS, Family, look_nodes
from nodearer.looks import look_number, look_size

_MOST_TAKE = 10


class Both(Family):
    """Two families side by side."""

    def __init__(self, first, second):
        things = first.things + second.things
        look_size(things, 0, MOST_THINGS)
        nodes = first.nodes + second.nodes + 1
        look_nodes(nodes)
        self.first = first
        self.second = second
        Family.__init__(self, things, [low + high for high in second.ranks for low in first.ranks], nodes)


class Short(Family):
    """The family whose bases are the free lots of a family with so many things."""

    def __init__(self, family, take):
        look_number(take, 0, _MOST_TAKE)
        if take > family.full:
            raise NumberError(take)
        nodes = family.nodes + 1
        look_nodes(nodes)
        self.family = family
        self.take = take
        Family.__init__(self, family.things, [min(rank, take) for rank in family.ranks], nodes)
