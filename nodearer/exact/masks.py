"""Lots as masks: integers whose bits are the things of a lot. Masks are indexes of tables over all lots."""


def mask_of(lot):
    """Return the mask of different things."""
    return sum([1 << thing for thing in lot])


def lot_of_mask(mask, things):
    """Return the lot of a mask."""
    return tuple([thing for thing in range(things) if (mask >> thing) & 1])


def sizes_of_masks(things):
    """Return the table of the numbers of things of all lots."""
    sizes = [0]
    for _ in range(things):
        sizes = sizes + [size + 1 for size in sizes]
    return sizes


def lots_of_size(things, size):
    """Return the list of all lots with so many things, in the order of lots."""
    lots = [()]
    for _ in range(size):
        lots = [lot + (thing,) for lot in lots for thing in range(_least_next(lot), things)]
    return lots


def _least_next(lot):
    return lot[-1] + 1 if lot else 0
