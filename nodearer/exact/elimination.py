"""Tables of integers: rank, direction and combinations of rows."""

from math import gcd, lcm

from nodearer.exact.ratios import Ratio
from nodearer.looks import look_number, look_numbers, look_rows, look_size, look_widths

_MOST_ROWS = 30
_MOST_WIDTH = 10
_MOST_ENTRY = 10 ** 4


def rank_of_rows(rows, width):
    """Return the rank of a table."""
    _look_table(rows, width)
    look_widths(rows, width)
    pivots = _eliminated(rows, width)[1]
    return len(pivots)


def direction_of(rows, width):
    """Return the direction of a table, or None if it has none."""
    _look_table(rows, width)
    look_widths(rows, width)
    lines, pivots = _eliminated(rows, width)
    if len(pivots) == width:
        return None
    column = [at for at in range(width) if at not in pivots][0]
    # All columns before this one have a pivot, so line k has its pivot in column k.
    scale = 1
    for at in range(column):
        scale = lcm(scale, lines[at][at])
    ahead = [-lines[at][column] * (scale // lines[at][at]) for at in range(column)]
    vector = divided(ahead + [scale] + [0] * (width - column - 1))
    return vector if [entry for entry in vector if entry][0] > 0 else [-entry for entry in vector]


def combination_of(rows, width, target):
    """Return one ratio for each row by which the rows add up to the target, or None."""
    _look_table(rows, width)
    look_size(len(target), 0, _MOST_WIDTH)
    look_numbers(target, -_MOST_ENTRY, _MOST_ENTRY)
    look_widths(rows, width)
    look_size(len(target), width, width)
    many = len(rows)
    equations = [[row[at] for row in rows] + [target[at]] for at in range(width)]
    lines, pivots = _eliminated(equations, many + 1)
    if many in pivots:
        return None
    ratios = [Ratio(0) for _ in range(many)]
    for line, pivot in zip(lines, pivots):
        sign = 1 if line[pivot] > 0 else -1
        ratios[pivot] = Ratio(sign * line[many], sign * line[pivot])
    return ratios


def _look_table(rows, width):
    look_rows(rows, _MOST_ROWS, _MOST_WIDTH, _MOST_ENTRY)
    look_number(width, 0, _MOST_WIDTH)


def _eliminated(rows, width):
    """Return lines with the same combinations as the rows, and the columns of their pivots in ascending order.

    In the column of a pivot only the line of the pivot has an entry that is not 0.
    """
    rest = [list(row) for row in rows]
    lines = []
    pivots = []
    for column in range(width):
        at = _first_with(rest, column)
        if at is None:
            continue
        line = rest.pop(at)
        rest = [_cleared(row, line, column) for row in rest]
        lines = [_cleared(row, line, column) for row in lines] + [line]
        pivots.append(column)
    return lines, pivots


def _first_with(rows, column):
    """Return the index of the first row whose entry in a column is not 0, or None."""
    for at, row in enumerate(rows):
        if row[column]:
            return at
    return None


def _cleared(row, line, column):
    """Return a multiple of the row to which a multiple of the line is added so that its entry in a column is 0."""
    if row[column] == 0:
        return row
    return divided([line[column] * mine - row[column] * other for mine, other in zip(row, line)])


def divided(row):
    """Divide by the greatest common divisor: without this the entries would grow with every step."""
    shared = 0
    for entry in row:
        shared = gcd(shared, entry)
    return [entry // shared for entry in row] if shared > 1 else row
