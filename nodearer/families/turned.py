"""Families that are made of others: mirrors and minors."""

from nodearer.errors import ThingError
from nodearer.exact.masks import mask_of
from nodearer.families.family import Family, look_nodes
from nodearer.families.tables import mirrored
from nodearer.looks import look_lot


class Mirror(Family):
    """The family whose bases are the lots of all things outside of a base."""

    def __init__(self, family):
        nodes = family.nodes + 1
        look_nodes(nodes)
        self.family = family
        Family.__init__(self, family.things, mirrored(family.things, family.ranks), nodes)


class Minor(Family):
    """What is left of a family if some things are taken and some are left."""

    def __init__(self, family, taken, left):
        self.taken = look_lot(family.things, taken)
        self.left = look_lot(family.things, left)
        look_apart(self.taken, self.left)
        nodes = family.nodes + 1
        look_nodes(nodes)
        self.family = family
        gone = self.taken + self.left
        self.rest = tuple([thing for thing in range(family.things) if thing not in gone])
        Family.__init__(self, len(self.rest), _ranks_of_rest(family, self.taken, self.rest), nodes)

    def lifted(self, lot):
        """Return the lot of the old numbers of the things of a lot, together with the taken things."""
        looked = look_lot(self.things, lot)
        return tuple(sorted(self.taken + tuple([self.rest[thing] for thing in looked])))


def look_apart(taken, left):
    """Refuse the least thing that is in both lots."""
    for thing in taken:
        if thing in left:
            raise ThingError(thing)


def _ranks_of_rest(family, taken, rest):
    masks = [mask_of(taken)]
    for thing in rest:
        masks = masks + [mask | (1 << thing) for mask in masks]
    return [family.ranks[mask] - family.ranks[masks[0]] for mask in masks]
