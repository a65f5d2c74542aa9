"""Trials: edits of a desk that are undone again, whatever happens."""

from nodearer.errors import NodearerError


class Trial:
    """What a with statement needs to do edits at a desk and to bring everything back."""

    def __init__(self, desk, edits):
        self.desk = desk
        self.edits = list(edits)

    def __enter__(self):
        desk = self.desk
        self.book = desk.book
        self.costs = desk.costs
        self.past = desk.past
        self.future = desk.future
        self.kept = desk.kept
        self.made = desk.made
        try:
            for edit in self.edits:
                desk.do(edit)
        except NodearerError:
            self.bring_back()
            raise
        return desk

    def __exit__(self, kind, value, trace):
        self.bring_back()

    def bring_back(self):
        """Let the desk be as it was when the block began."""
        desk = self.desk
        desk.book = self.book
        desk.costs = self.costs
        desk.past = self.past
        desk.future = self.future
        desk.kept = self.kept
        desk.made = self.made
