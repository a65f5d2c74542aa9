"""The simplex method over integers, for small programs of any size.

A tableau keeps integers that are to be divided by one common positive integer, the determinant of its basis up to
the sign. So every division in a pivot is exact. The least index decides every choice, which prevents cycles.
"""

from nodearer.exact.ratios import Ratio


class Tableau:
    """The lines of a program in terms of a basis, with one helping column for each line behind the real ones.

    The lacks are the line that counts how much of the sums the helping columns still carry.
    """

    def __init__(self, rows, sums, costs):
        many = len(rows)
        self.width = len(costs)
        self.signs = [-1 if wanted < 0 else 1 for wanted in sums]
        self.den = 1
        self.basis = [self.width + at for at in range(many)]
        self.lines = []
        for at, row in enumerate(rows):
            sign = self.signs[at]
            unit = [1 if other == at else 0 for other in range(many)]
            self.lines.append([sign * entry for entry in row] + unit + [sign * sums[at]])
        self.costs = list(costs) + [0] * (many + 1)
        self.lacks = [-sum([line[column] for line in self.lines]) for column in range(self.width)]
        self.lacks = self.lacks + [0] * many + [-sum([line[-1] for line in self.lines])]

    def pivot(self, at, column):
        """Bring a column into the basis, in the place of the one of a line."""
        line = self.lines[at]
        if line[column] < 0:
            line = [-entry for entry in line]
        den = self.den
        self.costs = _cleared(self.costs, line, column, den)
        self.lacks = _cleared(self.lacks, line, column, den)
        self.lines = [line if other == at else _cleared(self.lines[other], line, column, den)
                      for other in range(len(self.lines))]
        self.basis[at] = column
        self.den = line[column]

    def entering(self, gains):
        """Return the least real column whose entry in the line of gains is negative, or None."""
        for column in range(self.width):
            if gains[column] < 0:
                return column
        return None

    def leaving(self, column):
        """Return the line that bounds the growth of a column, or None if nothing does."""
        best = None
        for at, line in enumerate(self.lines):
            if line[column] <= 0:
                continue
            if best is None:
                best = at
                continue
            new = line[-1] * self.lines[best][column]
            old = self.lines[best][-1] * line[column]
            if new < old or (new == old and self.basis[at] < self.basis[best]):
                best = at
        return best

    def end_lacks(self):
        """Let the helping columns carry as little of the sums as possible; tell whether they carry nothing."""
        column = self.entering(self.lacks)
        while column is not None:
            self.pivot(self.leaving(column), column)
            column = self.entering(self.lacks)
        return self.lacks[-1] == 0

    def drive_out(self):
        """Take helping columns that carry nothing out of the basis; lines that need one are combinations of others."""
        for at in range(len(self.lines)):
            if self.basis[at] < self.width:
                continue
            columns = [column for column in range(self.width) if self.lines[at][column]]
            if columns:
                self.pivot(at, columns[0])

    def end_costs(self):
        """Make the point as cheap as possible; return the column that can grow without end, or None."""
        column = self.entering(self.costs)
        while column is not None:
            at = self.leaving(column)
            if at is None:
                return column
            self.pivot(at, column)
            column = self.entering(self.costs)
        return None

    def point(self):
        """Return the point of the basis."""
        entries = [Ratio(0) for _ in range(self.width)]
        for at, column in enumerate(self.basis):
            if column < self.width:
                entries[column] = Ratio(self.lines[at][-1], self.den)
        return entries

    def way(self, column):
        """Return the way in which a column that can grow without end grows."""
        entries = [Ratio(0) for _ in range(self.width)]
        entries[column] = Ratio(1)
        for at, other in enumerate(self.basis):
            if other < self.width:
                entries[other] = Ratio(-self.lines[at][column], self.den)
        return entries

    def cost_prices(self):
        """Return the prices of the rows for the costs."""
        return [Ratio(-sign * self.costs[self.width + at], self.den) for at, sign in enumerate(self.signs)]

    def lack_prices(self):
        """Return prices of the rows by which no column costs more than 0 although the sums do."""
        return [Ratio(sign * (self.den - self.lacks[self.width + at]), self.den)
                for at, sign in enumerate(self.signs)]


def optimum(rows, sums, costs):
    """Return the answer of a small program; nothing is looked at."""
    tableau = Tableau(rows, sums, costs)
    if not tableau.end_lacks():
        return "none", tableau.lack_prices()
    tableau.drive_out()
    column = tableau.end_costs()
    if column is not None:
        return "endless", tableau.point(), tableau.way(column)
    return "point", tableau.point(), tableau.cost_prices()


def _cleared(row, line, column, den):
    """Take the line from the row so often that its entry in a column becomes 0, over the new common denominator."""
    head = line[column]
    factor = row[column]
    return [(head * mine - factor * other) // den for mine, other in zip(row, line)]
