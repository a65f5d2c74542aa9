"""Lots as masks: integers whose bits are the things of a lot. Masks are indexes of tables over all lots."""


def mask_of(lot):
    """Return the mask of different things."""
    return sum([1 << thing for thing in lot])


def lot_of_mask(mask, things):
    """Return the lot of a mask."""
    return tuple([thing for thing in range(things) if (mask >> thing) & 1])


def sums_of_masks(entries):
    """Return the table of the sums of all lots, from one entry for each thing."""
    sums = [0]
    for entry in entries:
        sums = sums + [total + entry for total in sums]
    return sums


def sizes_of_masks(things):
    """Return the table of the numbers of things of all lots."""
    return sums_of_masks([1] * things)


def place_of(lot):
    """Return what puts lots into their order."""
    return len(lot), lot


def lots_of_size(things, size):
    """Return the list of all lots with so many things, in the order of lots."""
    lots = [()]
    for _ in range(size):
        lots = [lot + (thing,) for lot in lots for thing in range(_least_next(lot), things)]
    return lots


def _least_next(lot):
    return lot[-1] + 1 if lot else 0
