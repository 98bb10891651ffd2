"""Stacks that are alike, and endings that part those that are not."""

from stillopen.errors import Refused
from stillopen.machines import check_machine
from stillopen.pairlots import PairLots
from stillopen.stacks import answer_by, stack_in
from stillopen.streams import is_ending
from stillopen.ways import Ways


def _checked(machine, one, other):
    """(the machine, both stacks), all checked, the stacks being of one depth."""
    checked = check_machine(machine)
    stack = stack_in(checked, one)
    stack_too = stack_in(checked, other)
    if len(stack) != len(stack_too):
        raise Refused(other)
    return checked, stack, stack_too


def _lots(machine, one, other):
    """The lots of pairs of two stacks, by level, from the innermost out."""
    beside = PairLots(machine)
    lots = []
    within = None
    for state, state_too in reversed(list(zip(one[1:], other[1:]))):
        within = beside.inner_lot(within, state, state_too)
        lots.append(beside.pairs[within])
    lots.append(beside.top_lot(within, one[0], other[0]))
    return tuple(lots)


def pair_lots(machine, one, other):
    """The lots of pairs of two stacks of one depth, by level, from the innermost out."""
    checked, stack, stack_too = _checked(machine, one, other)
    return _lots(checked, stack, stack_too)


def alike(machine, one, other):
    """Whether each ending makes two stacks of one depth the same answer."""
    checked, stack, stack_too = _checked(machine, one, other)
    answers = checked[2][4]
    return all([answers[state] == answers[state_too] for state, state_too in _lots(checked, stack, stack_too)[-1]])


def parting(machine, one, other):
    """Some ending of fewest signs that parts two stacks of one depth, None if they are alike."""
    checked, stack, stack_too = _checked(machine, one, other)
    answers = checked[2][4]
    for (state, state_too), (_, signs) in Ways(checked).by_level([stack, stack_too])[-1].items():
        if answers[state] != answers[state_too]:
            return signs
    return None


def parting_holds(machine, one, other, value):
    """Whether any value is an ending that parts two stacks of one depth."""
    checked, stack, stack_too = _checked(machine, one, other)
    if not is_ending(len(stack) - 1, value):
        return False
    return answer_by(checked, stack, value) != answer_by(checked, stack_too, value)
