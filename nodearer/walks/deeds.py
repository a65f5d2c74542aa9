"""Deeds: what is to be done with a sound state, and what may be done with a state."""

from nodearer.errors import NodearerError, WishError
from nodearer.exact.elimination import divided
from nodearer.exact.ratios import Ratio, ratio_of
from nodearer.judging import is_list, is_number

_MOST_ENTRY = (10 ** 50) ** 20


def deed(state):
    """Return the deed of a state."""
    at = state.fault()
    if at is not None:
        raise WishError(at)
    if not state.loose:
        return ("base",)
    spares = state.spares()
    direction = state.direction_by(spares)
    if direction is None:
        return "drop", state.droppable()[0]
    back = [-entry for entry in direction]
    return "split", tuple(direction), state.step_by(spares, direction), state.step_by(spares, back)


def done(state, line):
    """Return the states that replace a state, each with its part of the weight, or None if the line is not right."""
    if not isinstance(line, tuple):
        return None
    if len(line) == 1 and line[0] == "base" and not state.loose:
        return []
    if len(line) == 2 and line[0] == "drop" and is_number(line[1]) and line[1] in state.droppable():
        return [(Ratio(1), state.dropped(line[1]))]
    if len(line) == 4 and line[0] == "split" and _is_way(state, line[1]) and _are_steps(line[2], line[3]):
        return _split(state, line[1], line[2], line[3])
    return None


def parted(weight, part):
    """Return a part of a weight; both numbers of a weight may be too great for a ratio."""
    return divided([weight[0] * part.num, weight[1] * part.den])


def _is_way(state, direction):
    """Tell whether a part of a line is a direction in which a state can be moved."""
    if not is_list(direction) or len(direction) != len(state.shares):
        return False
    if not all([is_number(entry) and abs(entry) <= _MOST_ENTRY for entry in direction]):
        return False
    return any(direction) and all([thing in state.loose for thing, entry in enumerate(direction) if entry])


def _are_steps(ahead, back):
    """Tell whether two parts of a line are positive ratios."""
    return all([isinstance(step, Ratio) and step.num > 0 for step in (ahead, back)])


def _split(state, direction, ahead, back):
    try:
        states = [state.shifted(direction, ahead), state.shifted(direction, -back)]
    except NodearerError:
        return None
    if not all([other.unkept() is None for other in states]):
        return None
    one = back.num * ahead.den
    two = ahead.num * back.den
    return [(ratio_of(one, one + two), states[0]), (ratio_of(two, one + two), states[1])]
