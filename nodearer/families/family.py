"""What all families have in common."""

from nodearer.errors import LotError
from nodearer.exact.masks import lots_of_size, mask_of
from nodearer.looks import look_lot, look_number, look_thing

MOST_THINGS = 10
MOST_NODES = 40


class Family:
    """A family of bases, which is known by its ranks: the table of the ranks of all lots by their masks."""

    def __init__(self, things, ranks, nodes):
        self.things = things
        self.ranks = tuple(ranks)
        self.full = self.ranks[-1]
        self.nodes = nodes

    def free(self, lot):
        """Tell whether a lot is part of a base."""
        looked = look_lot(self.things, lot)
        return self.ranks[mask_of(looked)] == len(looked)

    def is_base(self, lot):
        """Tell whether a lot is a base."""
        looked = look_lot(self.things, lot)
        return len(looked) == self.full and self.ranks[mask_of(looked)] == self.full

    def rank_of(self, lot):
        """Return the greatest number of things of a free part of a lot."""
        return self.ranks[mask_of(look_lot(self.things, lot))]

    def span(self, lot):
        """Return the lot of all things that do not make the rank of a lot greater."""
        mask = mask_of(look_lot(self.things, lot))
        rank = self.ranks[mask]
        return tuple([thing for thing in range(self.things) if self.ranks[mask | (1 << thing)] == rank])

    def ring(self, lot, thing):
        """Return the ring of a thing and some things of a free lot, or None if there is none."""
        looked = look_lot(self.things, lot)
        look_thing(self.things, thing)
        mask = mask_of(looked)
        rank = len(looked)
        if self.ranks[mask] < rank:
            raise LotError(looked)
        more = mask | (1 << thing)
        if thing in looked or self.ranks[more] > rank:
            return None
        return tuple([part for part in sorted(looked + (thing,)) if self.ranks[more ^ (1 << part)] == rank])

    def bases(self):
        """Yield the bases, in order."""
        for lot in lots_of_size(self.things, self.full):
            if self.ranks[mask_of(lot)] == self.full:
                yield lot

    @property
    def dead(self):
        """The lot of the things that are in no base."""
        return tuple([thing for thing in range(self.things) if self.ranks[1 << thing] == 0])

    @property
    def sure(self):
        """The lot of the things that are in every base."""
        whole = (1 << self.things) - 1
        return tuple([thing for thing in range(self.things) if self.ranks[whole ^ (1 << thing)] < self.full])

    def __eq__(self, other):
        return isinstance(other, Family) and self.things == other.things and self.ranks == other.ranks


def look_nodes(nodes):
    """Refuse a number of nodes that is too great."""
    look_number(nodes, 1, MOST_NODES)
