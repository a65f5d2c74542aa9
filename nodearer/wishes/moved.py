"""Books that are made of others: minors, mirrors, and books side by side."""

from nodearer.errors import LotError, WishError
from nodearer.exact.masks import mask_of
from nodearer.families.built import Both
from nodearer.families.family import MOST_THINGS
from nodearer.families.turned import Minor, Mirror, look_apart
from nodearer.looks import look_lot, look_size
from nodearer.wishes.books import MOST_WISHES, Book
from nodearer.wishes.wishes import Wish


def minor_book(book, taken, left):
    """Return the book that is left if some things are taken and some are left."""
    family = book.family
    sure = look_lot(family.things, taken)
    gone = look_lot(family.things, left)
    look_apart(sure, gone)
    if family.ranks[mask_of(sure)] < len(sure):
        raise LotError(sure)
    # The taken things are free, so a base has them and no left thing if any base has no left thing.
    whole = (1 << family.things) - 1
    if family.ranks[whole ^ mask_of(gone)] < family.full:
        raise LotError(gone)
    minor = Minor(family, sure, gone)
    return Book(minor, [_minor_wish(wish, sure, minor.rest) for wish in book.wishes])


def mirror_book(book):
    """Return the book for the things outside of a base."""
    for at, wish in enumerate(book.wishes):
        if not wish.plain:
            raise WishError(at)
    mirror = Mirror(book.family)
    return Book(mirror, [_mirror_wish(wish) for wish in book.wishes])


def side_book(first, second):
    """Return two books as one, the things and the wishes of the first one first."""
    things = first.family.things + second.family.things
    look_size(things, 0, MOST_THINGS)
    look_size(len(first.wishes) + len(second.wishes), 0, MOST_WISHES)
    family = Both(first.family, second.family)
    before = (0,) * first.family.things
    behind = (0,) * second.family.things
    wishes = [Wish(wish.weights + behind, most=wish.most, least=wish.least) for wish in first.wishes]
    return Book(family, wishes + [Wish(before + wish.weights, most=wish.most, least=wish.least)
                                  for wish in second.wishes])


def _minor_wish(wish, taken, rest):
    count = wish.count_of(taken)
    most = None if wish.most is None else wish.most - count
    least = None if wish.least is None else wish.least - count
    return Wish([wish.weights[thing] for thing in rest], most=most, least=least)


def _mirror_wish(wish):
    count = sum(wish.weights)
    most = None if wish.least is None else count - wish.least
    least = None if wish.most is None else count - wish.most
    return Wish(wish.weights, most=most, least=least)
