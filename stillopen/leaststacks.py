"""Least stacks: of all stacks that are alike the one that stands for their kind."""

from stillopen.errors import Refused, TooGreat
from stillopen.machines import check_machine
from stillopen.pairlots import PairLots
from stillopen.stacks import stack_in, stack_of
from stillopen.words import is_number


def _lots_beside(beside, stack):
    """By level, from the innermost out, the lots within it that come about with stacks beside this one."""
    lots = [[None]]
    for state in reversed(stack[1:]):
        found = [beside.inner_lot(within, state, other) for within in lots[-1] for other in beside.inner_states]
        lots.append(sorted(set(found)))
    return lots


def least_beside(beside, stack):
    """The least stack that is alike to a stack of states that are come to."""
    lots = _lots_beside(beside, stack)
    # From the outermost in: those lots within that can still be gone on with to a stack that is alike.
    within = lots.pop()
    for top in beside.top_states:
        good = [lot for lot in within if beside.are_alike(lot, stack[0], top)]
        if good:
            break
    states = [top]
    for state in stack[1:]:
        within = lots.pop()
        for other in beside.inner_states:
            better = [lot for lot in within if beside.inner_lot(lot, state, other) in good]
            if better:
                break
        good = better
        states.append(other)
    return tuple(states)


def _come_to(beside, stack):
    """Whether all states of a stack are come to."""
    return stack[0] in beside.top_states and all([state in beside.inner_states for state in stack[1:]])


def least(machine, stack):
    """The least of all stacks of states that are come to that are alike to one of these."""
    checked = check_machine(machine)
    states = stack_in(checked, stack)
    beside = PairLots(checked)
    if not _come_to(beside, states):
        raise Refused(stack)
    return least_beside(beside, states)


def kind(machine, prefix):
    """The least stack of what is behind a prefix."""
    checked = check_machine(machine)
    return least_beside(PairLots(checked), stack_of(checked, prefix))


def least_stacks(machine, depth, *, most):
    """Ascending all least stacks of a depth."""
    checked = check_machine(machine)
    if not is_number(depth):
        raise Refused(depth)
    beside = PairLots(checked)
    stacks = sorted(set([least_beside(beside, (top,)) for top in beside.top_states]))
    for _ in range(depth):
        # What stands around a least stack's innermost level is a least stack, too.
        if len(stacks) * len(beside.inner_states) > most:
            raise TooGreat(most)
        longer = [stack + (state,) for stack in stacks for state in beside.inner_states]
        stacks = [stack for stack in longer if least_beside(beside, stack) == stack]
    return tuple(stacks)
