"""Walkers do the deeds of open states until only bases are left."""

from nodearer.errors import HistoryError
from nodearer.exact.ratios import Ratio
from nodearer.looks import look_number
from nodearer.walks.deeds import deed, done, parted
from nodearer.walks.states import first_state

_MOST_STEPS = 120000


class Walker:
    """A walk from shares that fit a book."""

    def __init__(self, book, shares):
        self.book = book
        # The first open state stands at the end, where states are taken and put without moving the others.
        self._opened = [([1, 1], first_state(book, shares))]
        self.shares = tuple(shares)
        self._bases = []
        self._lines = []

    @property
    def ended(self):
        """Whether there are no open states."""
        return not self._opened

    @property
    def steps(self):
        """The number of steps done."""
        return len(self._lines)

    def step(self):
        """Do the deed of the first open state; return its line."""
        if not self._opened:
            raise HistoryError()
        weight, state = self._opened[-1]
        line = deed(state)
        others = [(parted(weight, part), other) for part, other in done(state, line)]
        self._opened[-1:] = others[::-1]
        if not state.loose:
            self._bases.append((weight, state.taken))
        self._lines.append(line)
        return line

    def run(self, most=120000):
        """Do steps until the walk ends, at most so many; return their number."""
        look_number(most, 0, _MOST_STEPS)
        count = 0
        while self._opened and count < most:
            self.step()
            count += 1
        return count

    def open_states(self):
        """Return the list of the open states with their weights."""
        return [(Ratio(weight[0], weight[1]), state) for weight, state in reversed(self._opened)]

    def found(self):
        """Return the list of the found bases with their weights."""
        return [(Ratio(weight[0], weight[1]), lot) for weight, lot in self._bases]

    def ladder(self):
        """Return the list of the lines of all steps."""
        return list(self._lines)
