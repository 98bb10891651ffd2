"""Stacks: what a machine has behind a prefix, the state of each open level's row."""

from stillopen.errors import BadSign, Refused
from stillopen.forms import check_sign
from stillopen.machines import check_machine, kind_of
from stillopen.streams import check_ending, check_prefix, read_levels
from stillopen.words import is_number_below, is_sequence


def stack_in(machine, value):
    """The stack of a machine that was checked as a tuple; Refused for any value that is none."""
    if not is_sequence(value) or len(value) == 0 or not is_number_below(value[0], machine[2][0]):
        raise Refused(value)
    if not all([is_number_below(state, machine[3][0]) for state in value[1:]]):
        raise Refused(value)
    return tuple(value)


def can_read(stack, sign):
    """Whether a sign that was checked can stand behind a stack."""
    return sign[0] != "close" or len(stack) > 1


def behind_sign(machine, stack, sign):
    """The stack behind a sign that can stand there."""
    labels, texts, tops, inners = machine
    if sign[0] == "open":
        return stack + (inners[1][kind_of(labels, sign[1])],)
    if sign[0] == "text":
        part = tops if len(stack) == 1 else inners
        return stack[:-1] + (part[2][kind_of(texts, sign[1])][stack[-1]],)
    part = tops if len(stack) == 2 else inners
    return stack[:-2] + (part[3][stack[-1]][stack[-2]],)


def _behind_all(machine, stack, signs):
    """The stack behind signs that can stand there."""
    led = stack
    for sign in signs:
        led = behind_sign(machine, led, sign)
    return led


def check_stack(machine, value):
    """The stack of a machine as a tuple; Refused for any value that is none."""
    return stack_in(check_machine(machine), value)


def first_stack(machine):
    """The stack behind no sign."""
    return (check_machine(machine)[2][1],)


def after(machine, stack, sign):
    """The stack behind a sign."""
    checked = check_machine(machine)
    states = stack_in(checked, stack)
    told = check_sign(sign)
    if not can_read(states, told):
        raise BadSign(0)
    return behind_sign(checked, states, told)


def after_all(machine, stack, signs):
    """The stack behind signs."""
    checked = check_machine(machine)
    states = stack_in(checked, stack)
    told, _ = read_levels(signs, len(states) - 1)
    return _behind_all(checked, states, told)


def stack_of(machine, prefix):
    """The stack behind a prefix."""
    checked = check_machine(machine)
    return _behind_all(checked, (checked[2][1],), check_prefix(prefix))


def answer_by(machine, stack, ending):
    """The answer of a machine where an ending leads a stack."""
    checked = check_machine(machine)
    states = stack_in(checked, stack)
    told = check_ending(len(states) - 1, ending)
    return checked[2][4][_behind_all(checked, states, told)[0]]
