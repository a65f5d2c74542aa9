"""Traits of people: lots of people, of whom so many are wished at most, or at least."""

from nodearer.looks import look_costs, look_lot, look_number, look_size
from nodearer.wishes.books import MOST_WISHES
from nodearer.wishes.wishes import MOST_NUMBER, Wish


def looked_traits(people, traits):
    """Look at traits; return them as tuples, with their lots in ascending order."""
    look_size(len(traits), 0, MOST_WISHES)
    looked = []
    for lot, most, least in traits:
        owners = look_lot(people, lot)
        for number in (most, least):
            if number is not None:
                look_number(number, -MOST_NUMBER, MOST_NUMBER)
        looked.append((owners, most, least))
    return tuple(looked)


def looked_costs(people, costs):
    """Look at costs of people, if there are any; return the costs, which are 0 otherwise."""
    if costs is None:
        return [0] * people
    look_costs(people, costs)
    return costs


def wishes_of(people, traits):
    """Return the list of the wishes of traits."""
    return [Wish.of(people, lot, most=most, least=least) for lot, most, least in traits]
