"""What the tests have in common: refusals, and families worked out from their definitions."""

import unittest
from itertools import combinations

FIELDS = {
    "SizeError": ("count",), "NumberError": ("number",), "ThingError": ("thing",), "WeightError": ("at",),
    "LotError": ("lot",), "CrossError": ("first", "second"), "ExchangeError": ("first", "second", "thing"),
    "ShareError": ("lot",), "WishError": ("at",), "GapError": ("at",), "TextError": ("line", "column"),
    "HistoryError": (),
}


def subsets(things):
    """All lots, in the order of lots."""
    return [lot for size in range(things + 1) for lot in combinations(range(things), size)]


def greatest(things, is_free):
    """The free lots that are not part of a larger free lot."""
    free = [set(lot) for lot in subsets(things) if is_free(lot)]
    return {tuple(sorted(lot)) for lot in free if not any(lot < other for other in free)}


class Case(unittest.TestCase):
    def refused(self, error, fields, call, *args, **more):
        """The call raises exactly this error with these fields and changes nothing."""
        before = held_by(call, args, more)
        with self.assertRaises(error) as caught:
            call(*args, **more)
        self.assertIs(caught.exception.__class__, error)
        told = tuple(getattr(caught.exception, name) for name in FIELDS[error.__name__])
        self.assertEqual(told, fields)
        self.assertEqual([value.__class__ for value in told], [value.__class__ for value in fields])
        str(caught.exception)
        self.assertEqual(held_by(call, args, more), before)

    def asked(self, call, *args, **more):
        """What the call returns; it changes nothing."""
        before = held_by(call, args, more)
        value = call(*args, **more)
        self.assertEqual(held_by(call, args, more), before)
        return value

    def exact(self, value, wanted):
        """Equal, and of the same kinds of values throughout."""
        self.assertEqual(value, wanted)
        self.assertEqual(kinds(value), kinds(wanted))

    def family_is(self, family, things, bases, nodes=1):
        """All that a family tells agrees with its definition by its bases."""
        bases = sorted({tuple(lot) for lot in bases})
        sets = [set(lot) for lot in bases]
        self.exact((family.things, family.full, family.nodes), (things, len(bases[0]), nodes))
        self.exact(list(family.bases()), bases)
        rank = {lot: max(len(base & set(lot)) for base in sets) for lot in subsets(things)}
        is_free = {lot: any(set(lot) <= base for base in sets) for lot in rank}
        for lot in rank:
            self.assertIs(family.free(list(lot)), is_free[lot])
            self.assertIs(family.is_base(list(lot)), lot in bases)
            self.exact(family.rank_of(list(lot)), rank[lot])
            wider = {x: tuple(sorted(set(lot) | {x})) for x in range(things)}
            self.exact(family.span(lot), tuple(x for x in range(things) if rank[wider[x]] == rank[lot]))
            if is_free[lot]:
                for x in range(things):
                    self.exact(family.ring(list(lot), x), self.ring_in(is_free, wider[x]))
        self.exact(family.dead, tuple(x for x in range(things) if not any(x in base for base in sets)))
        self.exact(family.sure, tuple(x for x in range(things) if all(x in base for base in sets)))

    @staticmethod
    def ring_in(is_free, lot):
        """The first lot that is not free although its smaller parts are, within a lot; None if there is none."""
        for size in range(len(lot) + 1):
            for part in combinations(lot, size):
                if not is_free[part]:
                    return part
        return None


def snapshot(value):
    """A value with all that its objects hold, so that it tells whether anything has changed."""
    if isinstance(value, (list, tuple)):
        return (value.__class__.__name__, [snapshot(part) for part in value])
    if isinstance(value, dict):
        return ("dict", [(key, snapshot(part)) for key, part in value.items()])
    if value.__class__.__module__.startswith("nodearer"):
        return (value.__class__.__name__, snapshot(vars(value)))
    return value


def held_by(call, args, more):
    """What a call could change: its arguments, and its object if it is a method."""
    return snapshot((args, more, getattr(call, "__self__", None)))


def kinds(value):
    """The kinds of a value and of its parts."""
    if isinstance(value, (list, tuple)):
        return (value.__class__, [kinds(part) for part in value])
    return value.__class__
