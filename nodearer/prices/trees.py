"""Trees: papers that show that no base that keeps a book is cheaper than a base, or that there is none."""

from nodearer.exact.lots import sum_of_costs
from nodearer.exact.ratios import Ratio, scaled
from nodearer.judging import is_list, is_lot, is_number
from nodearer.looks import look_costs, look_size
from nodearer.prices.charges import charge_in, charged_cost
from nodearer.prices.judges import are_fitting
from nodearer.wishes.plain import keepers

_MOST_ENTRIES = 60
_MOST_LINES = 2100


class Tree:
    """A base or None, and lines that divide all bases into cases and show of each case that none is better."""

    def __init__(self, base, lines):
        if base is not None:
            look_size(len(base), 0, _MOST_ENTRIES)
        look_size(len(lines), 0, _MOST_LINES)
        self.base = None if base is None else tuple(sorted(set(base)))
        self.lines = tuple([_told(line) if isinstance(line, tuple) else line for line in lines])

    def holds(self, book, costs):
        """Tell whether the tree is right for a book and costs."""
        look_costs(book.family.things, costs)
        if self.base is not None and not (is_lot(book.family.things, self.base) and book.keeps(self.base)):
            return False
        # The open cases are told by their bases and the things that are taken or left; the last one comes next.
        cases = [(list(book.family.bases()), ())]
        for line in self.lines:
            if not cases or not isinstance(line, tuple):
                return False
            bases, known = cases.pop()
            if _is_split(book.family.things, known, line):
                taken, left = _parts_of(bases, line[1])
                cases.append((left, known + (line[1],)))
                cases.append((taken, known + (line[1],)))
            elif not self._shows(book, costs, line, bases):
                return False
        return not cases

    def _shows(self, book, costs, line, bases):
        """Tell whether a line shows that a case with these bases has none that is better than the base."""
        if line == ("empty",):
            return not bases
        if len(line) != 2 or not are_fitting(book, line[1]):
            return False
        parts, whole = scaled(line[1])
        if line[0] == "refused":
            return all([charge_in(book, parts, lot) > 0 for lot in bases])
        if line[0] != "dearer" or self.base is None:
            return False
        bound = sum_of_costs(costs, self.base) * whole
        return all([charged_cost(book, costs, parts, whole, lot) >= bound for lot in bases])


def least_keeper(book, costs):
    """Return a right tree with the least keeper, or with None if no base keeps the book."""
    look_costs(book.family.things, costs)
    base = min(keepers(book), key=lambda lot: sum_of_costs(costs, lot), default=None)
    bound = None if base is None else sum_of_costs(costs, base)
    return Tree(base, _lines_of(book, costs, bound, list(book.family.bases()), 0))


def _lines_of(book, costs, bound, bases, thing):
    """Return lines for a case with these bases, in which the things below this one are taken or left.

    A case with one base at most always has a line, so no more things than there are get split.
    """
    line = _line_of(book, costs, bound, bases)
    if line is not None:
        return [line]
    taken, left = _parts_of(bases, thing)
    lines = _lines_of(book, costs, bound, taken, thing + 1)
    return [("split", thing)] + lines + _lines_of(book, costs, bound, left, thing + 1)


def _line_of(book, costs, bound, bases):
    """Return a line that ends a case with these bases, or None if it is to be split."""
    if not bases:
        return ("empty",)
    many = len(book.wishes)
    if bound is not None and min([sum_of_costs(costs, lot) for lot in bases]) >= bound:
        return "dearer", [Ratio(0)] * many
    for at, wish in enumerate(book.wishes):
        counts = [wish.count_of(lot) for lot in bases]
        if wish.most is not None and min(counts) > wish.most:
            return "refused", [Ratio(1 if other == at else 0) for other in range(many)]
        if wish.least is not None and max(counts) < wish.least:
            return "refused", [Ratio(-1 if other == at else 0) for other in range(many)]
    return None


def _parts_of(bases, thing):
    """Return the lists of the bases that have a thing and of those that have not."""
    return [lot for lot in bases if thing in lot], [lot for lot in bases if thing not in lot]


def _is_split(things, known, line):
    """Tell whether a line splits a case by a thing that is not known in it."""
    if len(line) != 2 or line[0] != "split":
        return False
    return is_number(line[1]) and 0 <= line[1] < things and line[1] not in known


def _told(part):
    """Return a part of a line with tuples in the place of lists."""
    return tuple([_told(entry) for entry in part]) if is_list(part) else part
