"""The errors by which calls refuse their arguments.

The messages contain no numbers: an integer that an error keeps may be too long to be written as a text.
"""


class NodearerError(ValueError):
    """The base class of all refusals."""


class SizeError(NodearerError):
    """A list has too few or too many entries."""

    def __init__(self, count):
        super().__init__("a list has too few or too many entries")
        self.count = count


class NumberError(NodearerError):
    """An integer is out of its bounds."""

    def __init__(self, number):
        super().__init__("an integer is out of its bounds")
        self.number = number


class ThingError(NodearerError):
    """An integer stands for a thing but is not one, or not a right one."""

    def __init__(self, thing):
        super().__init__("an integer is not a thing that may stand here")
        self.thing = thing


class WeightError(NodearerError):
    """A share, a weight or a price is not a right one."""

    def __init__(self, at):
        super().__init__("a share, a weight or a price is not right")
        self.at = at


class LotError(NodearerError):
    """A lot is not of the kind that is needed."""

    def __init__(self, lot):
        super().__init__("a lot is not of the kind that is needed")
        self.lot = tuple(lot)


class CrossError(NodearerError):
    """Two rooms cross."""

    def __init__(self, first, second):
        super().__init__("two rooms cross")
        self.first = first
        self.second = second


class ExchangeError(NodearerError):
    """A thing of the first lot cannot be exchanged for one of the second lot."""

    def __init__(self, first, second, thing):
        super().__init__("things cannot be exchanged")
        self.first = tuple(first)
        self.second = tuple(second)
        self.thing = thing


class ShareError(NodearerError):
    """Shares are not borne; the lot is their barrier."""

    def __init__(self, lot):
        super().__init__("shares are not borne")
        self.lot = tuple(lot)


class WishError(NodearerError):
    """A wish cannot be made or is not of the kind that is needed."""

    def __init__(self, at):
        super().__init__("a wish is not of the kind that is needed")
        self.at = at


class GapError(NodearerError):
    """A job, or a seat, has nobody who can take it."""

    def __init__(self, at):
        super().__init__("a job or a seat cannot be taken")
        self.at = at


class TextError(NodearerError):
    """A text does not have the form that is needed."""

    def __init__(self, line, column):
        super().__init__("a text does not have the form that is needed")
        self.line = line
        self.column = column


class HistoryError(NodearerError):
    """There is nothing to undo, to redo or to step."""

    def __init__(self):
        super().__init__("there is nothing to undo, to redo or to step")
