"""Small programs: the least cost of a point, and the judge of the three answers."""

from nodearer.errors import SizeError
from nodearer.exact.ratios import scaled
from nodearer.exact.simplex import optimum
from nodearer.judging import are_ratios
from nodearer.looks import look_numbers, look_rows, look_size, look_widths

_MOST_ROWS = 8
_MOST_COLUMNS = 40
_MOST_ENTRY = 10 ** 4


def solve_program(rows, sums, costs):
    """Return the right answer: a point with prices, prices that show that there is none, or an endless way."""
    _look_program(rows, sums, costs)
    return optimum(rows, sums, costs)


def judge_program(rows, sums, costs, answer):
    """Tell whether an answer has one of the three forms and its properties."""
    _look_program(rows, sums, costs)
    if not isinstance(answer, tuple):
        return False
    many = len(rows)
    width = len(costs)
    if len(answer) == 2 and answer[0] == "none":
        return are_ratios(answer[1], many) and _show_none(rows, sums, width, answer[1])
    if len(answer) != 3:
        return False
    if answer[0] == "point" and are_ratios(answer[1], width) and are_ratios(answer[2], many):
        return _show_least(rows, sums, costs, answer[1], answer[2])
    if answer[0] == "endless" and are_ratios(answer[1], width) and are_ratios(answer[2], width):
        return _is_point(rows, sums, answer[1]) and _is_way(rows, costs, answer[2])
    return False


def _look_program(rows, sums, costs):
    look_rows(rows, _MOST_ROWS, _MOST_COLUMNS, _MOST_ENTRY)
    look_size(len(sums), 0, _MOST_ROWS)
    look_numbers(sums, -_MOST_ENTRY, _MOST_ENTRY)
    look_size(len(costs), 0, _MOST_COLUMNS)
    look_numbers(costs, -_MOST_ENTRY, _MOST_ENTRY)
    if len(sums) != len(rows):
        raise SizeError(len(sums))
    look_widths(rows, len(costs))


def _product(first, second):
    """Return the sum of the products of the entries at equal positions."""
    return sum([one * two for one, two in zip(first, second)])


def _charges(rows, width, prices):
    """Return for each column the sum of the products of the prices with its entries."""
    return [_product([row[column] for row in rows], prices) for column in range(width)]


def _is_point(rows, sums, point):
    # The ratios of a paper may be too long for sums in bounds, so the judges compute with integers.
    entries, den = scaled(point)
    if [entry for entry in entries if entry < 0]:
        return False
    return all([_product(row, entries) == wanted * den for row, wanted in zip(rows, sums)])


def _is_way(rows, costs, way):
    entries = scaled(way)[0]
    if [entry for entry in entries if entry < 0]:
        return False
    return all([_product(row, entries) == 0 for row in rows]) and _product(costs, entries) < 0


def _show_none(rows, sums, width, prices):
    entries = scaled(prices)[0]
    return all([charge <= 0 for charge in _charges(rows, width, entries)]) and _product(sums, entries) > 0


def _show_least(rows, sums, costs, point, prices):
    if not _is_point(rows, sums, point):
        return False
    entries, den = scaled(prices)
    charges = _charges(rows, len(costs), entries)
    if not all([charge <= cost * den for charge, cost in zip(charges, costs)]):
        return False
    shares, part = scaled(point)
    return _product(sums, entries) * part == _product(costs, shares) * den
