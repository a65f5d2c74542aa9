"""Ladders: the lines of a walk as a paper."""

from nodearer.exact.ratios import MOST, Ratio
from nodearer.judging import is_list
from nodearer.looks import look_numbers
from nodearer.walks.deeds import done, parted
from nodearer.walks.states import first_state

_MOST_LINES = 120000


def judge_ladder(book, shares, lines):
    """Tell whether a ladder is right for a book and shares that fit it."""
    track = Track(first_state(book, shares))
    return track.follow(lines)


def followed(book, shares, lines):
    """Return the list of the bases that following a ladder finds, with their weights; None if it is not right."""
    track = Track(first_state(book, shares))
    if not track.follow(lines):
        return None
    look_numbers(track.too_great, 1, MOST)
    return [(Ratio(weight[0], weight[1]), lot) for weight, lot in track.ends]


class Track:
    """What following a ladder leads to.

    Whether a ladder is right is known only at its end, so the first weight that is no ratio is kept until then.
    """

    def __init__(self, state):
        self.opened = [([1, 1], state)]
        self.ends = []
        self.too_great = []

    def follow(self, lines):
        """Do the lines one after the other; tell whether all of them are right and no open state is left."""
        if not is_list(lines) or len(lines) > _MOST_LINES:
            return False
        for line in lines:
            if not self.opened or not self.do_line(line):
                return False
        return not self.opened

    def do_line(self, line):
        """Do a line in the first open state, the last one of the list; tell whether it is right."""
        weight, state = self.opened.pop()
        others = done(state, line)
        if others is None:
            return False
        if not others:
            self.ends.append((weight, state.taken))
        weighed = [(self.part_of(weight, part), other) for part, other in others]
        self.opened.extend(weighed[::-1])
        return True

    def part_of(self, weight, part):
        """Return a part of a weight, and keep it if it is the first that is too great for a ratio."""
        if self.too_great:
            return weight
        less = parted(weight, part)
        if max(less) > MOST:
            self.too_great = less
        return less
