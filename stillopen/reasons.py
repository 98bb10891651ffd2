"""Reasons: endings of each answer, and papers that tell why a stack is open or sure."""

from stillopen.ends import Ends
from stillopen.machineforms import is_answer
from stillopen.machines import check_machine
from stillopen.stacks import answer_by, stack_in, stack_of
from stillopen.streams import check_prefix, is_ending
from stillopen.sure import answer_in, earliest
from stillopen.ways import Ways
from stillopen.words import is_number_below, is_row_of, is_sequence


def endings(machine, stack):
    """Ascending (answer, some ending of fewest signs that gives it to a stack)."""
    checked = check_machine(machine)
    return tuple(sorted(list(Ways(checked).endings(stack_in(checked, stack)).items())))


def ending_to(machine, stack, answer):
    """Some ending of fewest signs that gives an answer to a stack, None if none gives it."""
    checked = check_machine(machine)
    states = stack_in(checked, stack)
    told = answer_in(checked, answer)
    return Ways(checked).endings(states).get(told)


def why(machine, stack):
    """A paper that tells why a stack is open, or why it is sure."""
    checked = check_machine(machine)
    states = stack_in(checked, stack)
    ends = Ends(checked)
    answer = ends.sure(states)
    if answer is not None:
        return "sure", answer, ends.inner_states, ends.lots_by_level(states)
    told = sorted([(len(signs), one, signs) for one, signs in endings(checked, states)])
    return "open", told[0][1:], told[1][1:]


def _gives(machine, stack, value):
    """Whether any value is (answer, ending of a stack that gives it)."""
    if not is_row_of(value, 2) or not is_answer(value[0], len(machine[2][4][0])):
        return False
    return is_ending(len(stack) - 1, value[1]) and answer_by(machine, stack, value[1]) == tuple(value[0])


def _is_open_paper(machine, stack, value):
    """Whether any value is two (answer, ending) of a stack, the answers unlike."""
    if not is_row_of(value, 3) or value[0] != "open":
        return False
    _, one, other = value
    return _gives(machine, stack, one) and _gives(machine, stack, other) and tuple(one[0]) != tuple(other[0])


def _are_states(value, many):
    """Whether any value is ascending numbers of states, of which there are many."""
    if not is_sequence(value) or not all([is_number_below(state, many) for state in value]):
        return False
    return all([one < other for one, other in zip(value, value[1:])])


def _has_all(lot, maps, firsts):
    """Whether a lot has all the first states, and all to which maps lead any of it."""
    kept = {state: True for state in lot}
    return all([state in kept for state in firsts]) and all([row[state] in kept for row in maps for state in lot])


def _maps_of(part, ends):
    """The maps of a part's texts, and of elements that end in these states."""
    return list(part[2]) + [part[3][child] for child in ends]


def _are_lots(machine, stack, lots, ends):
    """Whether sequences have by level, from the innermost out, all states in which it can end."""
    _, _, tops, inners = machine
    if not is_row_of(lots, len(stack)):
        return False
    firsts = [stack[-1]]
    for at, lot in enumerate(lots):
        level = len(stack) - 1 - at
        part = inners if level > 0 else tops
        if not _are_states(lot, part[0]) or not _has_all(lot, _maps_of(part, ends), firsts):
            return False
        if level > 0:
            children = inners[3] if level > 1 else tops[3]
            firsts = [children[child][stack[level - 1]] for child in lot]
    return True


def _is_sure_paper(machine, stack, value):
    """Whether any value tells in which states elements and levels can end, and that this gives one answer."""
    if not is_row_of(value, 4) or value[0] != "sure" or not is_answer(value[1], len(machine[2][4][0])):
        return False
    _, answer, ends, lots = value
    inners = machine[3]
    if not _are_states(ends, inners[0]) or not _has_all(ends, _maps_of(inners, ends), inners[1]):
        return False
    if not _are_lots(machine, stack, lots, ends):
        return False
    return all([machine[2][4][state] == tuple(answer) for state in lots[-1]])


def why_holds(machine, stack, value):
    """Whether any value is a paper that tells why a stack is open, or why it is sure."""
    checked = check_machine(machine)
    states = stack_in(checked, stack)
    return _is_open_paper(checked, states, value) or _is_sure_paper(checked, states, value)


def turning(machine, prefix):
    """(how many signs are read when it is sure first, why then, why ahead of the last); None if it is open."""
    checked = check_machine(machine)
    signs = check_prefix(prefix)
    told = earliest(checked, signs)
    if told is None:
        return None
    many = told[0]
    ahead = why(checked, stack_of(checked, signs[:many - 1])) if many > 0 else None
    return many, why(checked, stack_of(checked, signs[:many])), ahead
