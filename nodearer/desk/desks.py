"""Desks: books that are edited and asked again and again."""

from nodearer.desk.edits import edited, inverse
from nodearer.desk.trials import Trial
from nodearer.errors import HistoryError
from nodearer.looks import look_costs, look_size
from nodearer.prices.settle import settle

_MOST_EDITS = 20


class Desk:
    """A book with costs, the edits that have made them, and the answer that was given last.

    Past and future are tuples that are never changed but only replaced, so that a trial can keep them.
    """

    def __init__(self, book, costs):
        look_costs(book.family.things, costs)
        self.book = book
        self.costs = tuple(costs)
        self.made = 0
        self.kept = None
        # The past has tuples of an edit and its inverse, the oldest first; the future has edits, the next one first.
        self.past = ()
        self.future = ()

    def do(self, edit):
        """Do an edit; return its inverse."""
        back = self._go_on(edit)
        self.future = ()
        return back

    def undo(self):
        """Undo the last edit; return it."""
        if not self.past:
            raise HistoryError()
        edit, back = self.past[-1]
        self._change(back)
        self.past = self.past[:-1]
        self.future = (edit, *self.future)
        return edit

    def redo(self):
        """Do the edit again that was undone last; return it."""
        if not self.future:
            raise HistoryError()
        edit = self.future[0]
        self._go_on(edit)
        self.future = self.future[1:]
        return edit

    def history(self):
        """Return the list of the edits that have been done and not undone, the oldest first."""
        return [edit for edit, _ in self.past]

    def undone(self):
        """Return the list of the edits that can be redone, the next one first."""
        return list(self.future)

    def answer(self):
        """Return the answer that is kept, if it is right, otherwise a new one, which is kept in its place."""
        if self.kept is None or not self.kept.holds(self.book, self.costs):
            self.kept = settle(self.book, self.costs)
            self.made += 1
        return self.kept

    @property
    def held(self):
        """The answer that is kept, right or not, or None."""
        return self.kept

    def answer_with(self, edits):
        """Return the answer after some edits; afterwards everything is as before."""
        with self.trial(edits) as desk:
            return desk.answer()

    def trial(self, edits):
        """Return an object for a with statement, in whose block some edits are done."""
        look_size(len(edits), 0, _MOST_EDITS)
        return Trial(self, edits)

    def _go_on(self, edit):
        """Do an edit that comes behind those of the past; return its inverse."""
        back = inverse(self.book, self.costs, edit)
        self._change(edit)
        self.past = (*self.past, (edit, back))
        return back

    def _change(self, edit):
        book, costs = edited(self.book, self.costs, edit)
        self.book = book
        self.costs = tuple(costs)
