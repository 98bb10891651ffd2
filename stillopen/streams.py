"""Prefixes, streams and endings: rows of signs, and the levels that they leave open."""

from stillopen.errors import BadStream, Refused
from stillopen.forms import is_sign
from stillopen.words import is_number, is_number_below, is_sequence


def read_levels(value, ahead):
    """(the signs as tuples, how many levels are open behind them), so many being open ahead."""
    if not is_sequence(value):
        raise BadStream(-1)
    signs = []
    level = ahead
    for at, sign in enumerate(value):
        if not is_sign(sign):
            raise BadStream(at)
        level += _step_of(sign)
        if level < 0:
            raise BadStream(at)
        signs.append(tuple(sign))
    return tuple(signs), level


def _step_of(sign):
    """By how many levels a sign changes the depth."""
    if sign[0] == "open":
        return 1
    return -1 if sign[0] == "close" else 0


def _read_whole(value, ahead):
    """The signs as tuples, which leave no level open."""
    signs, level = read_levels(value, ahead)
    if level > 0:
        raise BadStream(len(signs))
    return signs


def check_prefix(value):
    """The prefix as tuples; BadStream for any value that is none."""
    signs, _ = read_levels(value, 0)
    return signs


def check_stream(value):
    """The stream as tuples; BadStream for any value that is none."""
    return _read_whole(value, 0)


def is_stream(value):
    """Whether any value is a stream."""
    try:
        check_stream(value)
    except BadStream:
        return False
    return True


def check_ending(depth, value):
    """The ending of a depth as tuples; BadStream for any value that is none."""
    if not is_number(depth):
        raise Refused(depth)
    return _read_whole(value, depth)


def is_ending(depth, value):
    """Whether any value is an ending of this depth."""
    try:
        check_ending(depth, value)
    except BadStream:
        return False
    return True


def closing(depth):
    """The shortest ending of a depth."""
    if not is_number(depth):
        raise Refused(depth)
    return (("close",),) * depth


def depth(prefix):
    """How many levels a prefix leaves open."""
    _, level = read_levels(prefix, 0)
    return level


def depths(prefix):
    """By how many signs of a prefix are read, from none on, the depth then."""
    levels = [0]
    for sign in check_prefix(prefix):
        levels.append(levels[-1] + _step_of(sign))
    return tuple(levels)


def open_labels(prefix):
    """The labels of the levels that a prefix leaves open, the outermost first."""
    labels = []
    for sign in check_prefix(prefix):
        if sign[0] == "open":
            labels.append(sign[1])
        elif sign[0] == "close":
            labels.pop()
    return tuple(labels)


def node_behind(prefix, at):
    """The place behind the node that begins at a place, None if it is not closed."""
    signs = check_prefix(prefix)
    if not is_number_below(at, len(signs)) or signs[at] == ("close",):
        raise Refused(at)
    level = 0
    for place in range(at, len(signs)):
        level += _step_of(signs[place])
        if level == 0:
            return place + 1
    return None
