"""Peeling bases from shares, once, or again and again until nothing is left of them."""

from nodearer.exact.masks import sums_of_masks
from nodearer.exact.ratios import Ratio, least_quotient
from nodearer.shares.blocks import blocks_of
from nodearer.shares.loads import MOST_WHOLE, borne_load, look_shares, spares_of
from nodearer.shares.mixtures import Mixture, made_mixture


def peel(family, shares):
    """Return the base and the weight of the peel."""
    parts, whole, spares = borne_load(family, shares)
    base = _base_of(family, parts, spares)
    num, den = _weight_of(family, parts, whole, spares, base)
    return base, Ratio(num, den * whole)


def peeled(family, shares):
    """Return the mixture that is found by peeling again and again."""
    parts, whole, spares = borne_load(family, shares)
    table = {}
    # What is left is never divided by what remains of 1: the rest tells how many parts still make a whole.
    rest = whole
    while rest:
        base = _base_of(family, parts, spares)
        num, den = _weight_of(family, parts, rest, spares, base)
        table = {lot: part * den for lot, part in table.items()}
        table[base] = num
        parts = [part * den - num if thing in base else part * den for thing, part in enumerate(parts)]
        rest = rest * den - num
        whole = whole * den
        spares = spares_of(family, parts, rest)
    return made_mixture(family.things, table, whole)


def judge_mixture(family, shares, mixture):
    """Tell whether a mixture is one of bases of the family, with exactly these shares."""
    look_shares(family.things, shares, MOST_WHOLE)
    return is_mixture_of_bases(family, shares, mixture)


def is_mixture_of_bases(family, shares, mixture):
    """Tell what judge_mixture tells, for shares with any denominator."""
    if not isinstance(mixture, Mixture) or mixture.things != family.things:
        return False
    return mixture.shares == tuple(shares) and all([family.is_base(lot) for _, lot in mixture.pairs])


def _base_of(family, parts, spares):
    """Return the base that has as many things of each tight lot as the rank of that lot."""
    mask = 0
    found = []
    for block in blocks_of(family.things, spares):
        for thing in block:
            more = mask | (1 << thing)
            if parts[thing] > 0 and family.ranks[more] > family.ranks[mask]:
                mask = more
                found.append(thing)
    return tuple(sorted(found))


def _weight_of(family, parts, whole, spares, base):
    """Return the greatest number of parts, as a quotient of integers, that the base can have of the whole."""
    common = sums_of_masks([1 if thing in base else 0 for thing in range(family.things)])
    bounds = [(whole, 1)] + [(parts[thing], 1) for thing in base]
    for spare, rank, many in zip(spares, family.ranks, common):
        if rank > many:
            bounds.append((spare, rank - many))
    return least_quotient(bounds)
