"""The looks at arguments that many calls have in common.

A look raises the error of the first thing that is wrong, in the order in which it goes through its argument.
"""

from nodearer.errors import NumberError, SizeError, ThingError

_MOST_THINGS = 10
_MOST_ENTRIES = 60
MOST_COST = 10 ** 6


def look_size(count, least, most):
    """Refuse a number of entries that is out of its bounds."""
    if count < least or count > most:
        raise SizeError(count)


def look_number(number, least, most):
    """Refuse an integer that is out of its bounds."""
    if number < least or number > most:
        raise NumberError(number)


def look_numbers(numbers, least, most):
    """Refuse the first integer that is out of the bounds of all."""
    for number in numbers:
        look_number(number, least, most)


def look_things(things):
    """Refuse a number of things that is out of its bounds."""
    look_number(things, 0, _MOST_THINGS)


def look_thing(things, thing):
    """Refuse an integer that is not a thing."""
    if thing < 0 or thing >= things:
        raise ThingError(thing)


def look_lot(things, entries):
    """Look at a list of things; return the lot, a tuple in ascending order."""
    look_size(len(entries), 0, _MOST_ENTRIES)
    for thing in entries:
        look_thing(things, thing)
    return tuple(sorted(set(entries)))


def look_costs(things, costs):
    """Look at one cost for each thing."""
    look_size(len(costs), things, things)
    look_numbers(costs, -MOST_COST, MOST_COST)


def look_rows(rows, most_rows, most_width, bound):
    """Look at a list of rows of integers; the rows need not have the same width."""
    look_size(len(rows), 0, most_rows)
    for row in rows:
        look_size(len(row), 0, most_width)
        look_numbers(row, -bound, bound)


def look_widths(rows, width):
    """Refuse the first row that has not this width."""
    for row in rows:
        look_size(len(row), width, width)
