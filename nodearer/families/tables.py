"""Tables of ranks: the ranks of all lots, with the masks of the lots as indexes."""

from nodearer.exact.masks import mask_of, sizes_of_masks


def ranks_of_free(things, free):
    """Return the ranks, from the list that tells for each mask whether its lot is free."""
    sizes = sizes_of_masks(things)
    ranks = []
    for mask in range(1 << things):
        if free[mask]:
            ranks.append(sizes[mask])
        else:
            ranks.append(max([ranks[part] for part in _parts_of(mask, things)]))
    return ranks


def ranks_of_bases(things, bases):
    """Return the ranks of the family with these bases."""
    free = [False] * (1 << things)
    for lot in bases:
        free[mask_of(lot)] = True
    for mask in reversed(range(1 << things)):
        if free[mask]:
            for part in _parts_of(mask, things):
                free[part] = True
    return ranks_of_free(things, free)


def ranks_under_rooms(things, rooms):
    """Return the ranks if a lot is free that has no more things of any room than its number.

    The rooms are pairs of a lot and a number; any two of them are apart, or one is part of the other one.
    """
    sizes = sizes_of_masks(things)
    bounds = [(mask_of(lot), most) for lot, most in rooms]
    free = [all([sizes[mask & room] <= most for room, most in bounds]) for mask in range(1 << things)]
    return ranks_of_free(things, free)


def mirrored(things, ranks):
    """Return the ranks of the mirror of a family."""
    whole = (1 << things) - 1
    sizes = sizes_of_masks(things)
    return [sizes[mask] + ranks[whole ^ mask] - ranks[whole] for mask in range(1 << things)]


def is_ring(ranks, lot):
    """Tell whether a lot is not free although every smaller part of it is free."""
    mask = mask_of(lot)
    rank = len(lot) - 1
    return ranks[mask] == rank and all([ranks[mask ^ (1 << thing)] == rank for thing in lot])


def _parts_of(mask, things):
    """Return the masks that lack one of the things."""
    return [mask ^ (1 << thing) for thing in range(things) if (mask >> thing) & 1]
