"""What need not be looked at: idle levels, and the signs of streams that stand in them."""

from stillopen.errors import Refused
from stillopen.idle import Idle
from stillopen.likeness import parting
from stillopen.machines import check_machine, kind_of
from stillopen.stacks import answer_by, behind_sign, stack_in
from stillopen.streams import check_stream, depths, is_ending
from stillopen.ways import Ways
from stillopen.words import is_label, is_number, is_row_of


def _check_level(stack, value):
    """Refused for any value that is no number of an open level of a stack."""
    if not is_number(value) or not 1 <= value < len(stack):
        raise Refused(value)


def is_idle(machine, stack, level):
    """Whether a level of a stack is idle."""
    checked = check_machine(machine)
    states = stack_in(checked, stack)
    _check_level(states, level)
    return Idle(checked).is_idle(states, level)


def idle_level(machine, stack):
    """The outermost idle level of a stack, None if none is."""
    checked = check_machine(machine)
    return Idle(checked).outermost(stack_in(checked, stack))


def is_skipped(machine, stack, label):
    """Whether the element that an opening would begin is idle from there on."""
    checked = check_machine(machine)
    states = stack_in(checked, stack)
    if not is_label(label):
        raise Refused(label)
    within = states + (checked[3][1][kind_of(checked[0], label)],)
    return Idle(checked).is_idle(within, len(states))


def asked(machine, stack, level):
    """Some (way, way, ending) by which the answers are unlike; None if the level is idle."""
    checked = check_machine(machine)
    states = stack_in(checked, stack)
    _check_level(states, level)
    led = Ways(checked).by_level([states])[len(states) - 1 - level]
    children = checked[3][3] if level > 1 else checked[2][3]
    around = states[:level - 1]
    ways = {}
    for (child,), (_, signs) in led.items():
        ways.setdefault(around + (children[child][states[level - 1]],), signs)
    behind = list(ways)
    for other in behind[1:]:
        ending = parting(checked, behind[0], other)
        if ending is not None:
            return ways[behind[0]], ways[other], ending
    return None


def asked_holds(machine, stack, level, value):
    """Whether any value is two ways of a level, and an ending by which the answers are unlike."""
    checked = check_machine(machine)
    states = stack_in(checked, stack)
    _check_level(states, level)
    if not is_row_of(value, 3) or not is_ending(level - 1, value[2]):
        return False
    within = len(states) - 1 - level
    if not is_ending(within, value[0]) or not is_ending(within, value[1]):
        return False
    answers = [answer_by(checked, states, list(way) + [("close",)] + list(value[2])) for way in value[:2]]
    return answers[0] != answers[1]


def _gaps(machine, signs):
    """Ascending (place, place behind, how many levels are closed there) of the gaps of a stream."""
    idle = Idle(machine)
    levels = depths(signs)
    stack = (machine[2][1],)
    found = []
    at = 0
    while at < len(signs):
        stack = behind_sign(machine, stack, signs[at])
        at += 1
        level = idle.outermost(stack)
        if level is not None:
            first = at
            while levels[at + 1] >= level:
                stack = behind_sign(machine, stack, signs[at])
                at += 1
            if at > first:
                found.append((first, at, levels[first] - level))
    return found


def gaps(machine, stream):
    """Ascending (place, place behind) of the signs of a stream that need not be looked at."""
    checked = check_machine(machine)
    return tuple([(first, behind) for first, behind, _ in _gaps(checked, check_stream(stream))])


def bare(machine, stream):
    """The stream with as many closings alone in each gap as levels that are open ahead are closed there."""
    checked = check_machine(machine)
    signs = check_stream(stream)
    kept = ()
    at = 0
    for first, behind, closed in _gaps(checked, signs):
        kept = kept + signs[at:first] + (("close",),) * closed
        at = behind
    return kept + signs[at:]


def looked_at(machine, stream):
    """How many signs of a stream are in no gap."""
    checked = check_machine(machine)
    signs = check_stream(stream)
    return len(signs) - sum([behind - first for first, behind, _ in _gaps(checked, signs)])
