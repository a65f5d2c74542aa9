"""Families that are told by numbers: choices and groups."""

from nodearer.errors import NumberError
from nodearer.exact.masks import sizes_of_masks
from nodearer.families.family import Family
from nodearer.families.tables import ranks_under_rooms
from nodearer.looks import look_number, look_numbers, look_size, look_things

_MOST = 10


class Choice(Family):
    """The family whose bases are all lots with so many things."""

    def __init__(self, things, take):
        look_things(things)
        look_number(take, 0, _MOST)
        if take > things:
            raise NumberError(take)
        self.take = take
        Family.__init__(self, things, [min(size, take) for size in sizes_of_masks(things)], 1)


class Groups(Family):
    """The family whose bases have exactly so many things of each group."""

    def __init__(self, groups, takes):
        look_size(len(groups), 0, _MOST)
        look_numbers(groups, 0, _MOST - 1)
        look_size(len(takes), 0, _MOST)
        look_numbers(takes, 0, _MOST)
        for group in groups:
            if group >= len(takes):
                raise NumberError(group)
        self.groups = tuple(groups)
        self.takes = tuple(takes)
        for group, take in enumerate(self.takes):
            if take > self.groups.count(group):
                raise NumberError(take)
        things = len(self.groups)
        Family.__init__(self, things, ranks_under_rooms(things, self._rooms()), 1)

    def _rooms(self):
        """Return each group as a lot with its number."""
        many = len(self.groups)
        return [([thing for thing in range(many) if self.groups[thing] == group], take)
                for group, take in enumerate(self.takes)]
