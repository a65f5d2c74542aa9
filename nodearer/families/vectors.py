"""Vectors: rows of integers, of which the independent lots are free."""

from nodearer.errors import NumberError
from nodearer.exact.elimination import divided
from nodearer.families.family import Family
from nodearer.looks import look_rows, look_widths

_MOST_ROWS = 10
_MOST_WIDTH = 8
_MOST_ENTRY = 1000
_PRIMES = (0, 2, 3, 5, 7)


class Vectors(Family):
    """The family of the lots of independent rows, over the integers or modulo a prime number."""

    def __init__(self, rows, prime=0):
        look_rows(rows, _MOST_ROWS, _MOST_WIDTH, _MOST_ENTRY)
        if prime not in _PRIMES:
            raise NumberError(prime)
        if rows:
            look_widths(rows, len(rows[0]))
        self.rows = tuple([tuple(row) for row in rows])
        self.prime = prime
        Family.__init__(self, len(self.rows), _ranks(self.rows, prime), 1)


def _ranks(rows, prime):
    """Return the ranks, from independent lines for each lot."""
    found = [[]]
    for row in rows:
        found = found + [_with_row(lines, row, prime) for lines in found]
    return [len(lines) for lines in found]


def _with_row(lines, row, prime):
    """Return the lines, and what is left of the row if it is independent of them."""
    left = _simple(row, prime)
    for line in lines:
        column = _first_column(line)
        left = _simple([line[column] * mine - left[column] * other for mine, other in zip(left, line)], prime)
    return lines if _first_column(left) is None else lines + [left]


def _simple(row, prime):
    """Return a row with smaller entries that is zero for the same multipliers."""
    return [entry % prime for entry in row] if prime else divided(row)


def _first_column(row):
    """Return the first column whose entry is not 0, or None."""
    for column, entry in enumerate(row):
        if entry:
            return column
    return None
