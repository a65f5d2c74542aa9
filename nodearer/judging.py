"""What judges ask of the parts of papers, which may be anything."""

from nodearer.exact.ratios import Ratio

_MOST_ENTRIES = 60


def is_list(part):
    """A tuple may stand for a list in a paper."""
    return isinstance(part, (list, tuple))


def is_number(part):
    """True and False are no numbers, although they are integers for Python."""
    return isinstance(part, int) and not isinstance(part, bool)


def are_ratios(part, count):
    """Tell whether a part is a list of so many ratios."""
    return is_list(part) and len(part) == count and all([isinstance(entry, Ratio) for entry in part])


def is_lot(things, part):
    """Tell whether a part is a list of things, in any order and with repetitions."""
    if not is_list(part) or len(part) > _MOST_ENTRIES:
        return False
    return all([is_number(entry) and 0 <= entry < things for entry in part])
