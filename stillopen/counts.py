"""How many kinds of stacks there are of each depth, by a machine that reads least stacks."""

from stillopen.errors import Refused, TooGreat
from stillopen.machines import check_machine
from stillopen.pairlots import PairLots
from stillopen.words import is_number

LESS = -1
LIKE = 0
MORE = 1


def _order(state, other, inward):
    """Which of a stack and the one beside it is less, by a level and what was read further in."""
    if other == state:
        return inward
    return LESS if other < state else MORE


def _behind(beside, lots, state):
    """What is beside a stack behind one level more, outwards: ascending (lot, order)."""
    found = []
    for within, order in lots:
        for other in beside.inner_states:
            found.append((beside.inner_lot(within, state, other), _order(state, other, order)))
    return tuple(sorted(set(found)))


def _is_least(beside, lots, top):
    """Whether no stack beside the one with this top state is alike and less."""
    for within, order in lots:
        for other in beside.top_states:
            if _order(top, other, order) == LESS and beside.are_alike(within, top, other):
                return False
    return True


def _all_lots(machine, most):
    """(by state the steps, by state the tops) of a machine that reads least stacks, not yet the least one."""
    beside = PairLots(machine)
    states = [((None, LIKE),)]
    numbers = {states[0]: 0}
    steps = []
    tops = []
    while len(steps) < len(states):
        lots = states[len(steps)]
        row = []
        for state in beside.inner_states:
            behind = _behind(beside, lots, state)
            if behind not in numbers:
                if len(states) == most:
                    raise TooGreat(most)
                numbers[behind] = len(states)
                states.append(behind)
            row.append((state, numbers[behind]))
        steps.append(row)
        tops.append(tuple([top for top in beside.top_states if _is_least(beside, lots, top)]))
    return steps, tops


def _leading_on(steps, tops):
    """By state whether some word leads from it to a top."""
    ahead = [[] for _ in steps]
    for state, row in enumerate(steps):
        for _, behind in row:
            ahead[behind].append(state)
    told = [len(row) > 0 for row in tops]
    todo = [state for state, is_told in enumerate(told) if is_told]
    while todo:
        led = todo.pop()
        for state in ahead[led]:
            if not told[state]:
                told[state] = True
                todo.append(state)
    return told


def _lots_of_words(steps, tops):
    """By state a number, the same one for states with the same words behind them."""
    lots = [0] * len(steps)
    many = 0
    while many < max(lots) + 1:
        many = max(lots) + 1
        numbers = {}
        led = [tuple([(letter, lots[behind]) for letter, behind in row]) for row in steps]
        lots = [numbers.setdefault(told, len(numbers)) for told in zip(tops, led)]
    return lots


def _least_reader(steps, tops):
    """The least machine of the same words, numbered as its states are come to."""
    told = _leading_on(steps, tops)
    kept = [[(letter, behind) for letter, behind in row if told[behind]] for row in steps]
    lots = _lots_of_words(kept, tops)
    states = [0]
    numbers = {lots[0]: 0}
    rows = []
    while len(rows) < len(states):
        row = []
        led = states[len(rows)]
        for letter, behind in kept[led]:
            if lots[behind] not in numbers:
                numbers[lots[behind]] = len(states)
                states.append(behind)
            row.append((letter, numbers[lots[behind]]))
        rows.append(tuple(row))
    return len(states), 0, tuple(rows), tuple([tops[state] for state in states])


def stack_machine(machine, *, most):
    """The least machine whose words, each with its tops, are the least stacks, read from the innermost level out."""
    steps, tops = _all_lots(check_machine(machine), most)
    return _least_reader(steps, tops)


def counts_to(machine, depth, *, most):
    """How many kinds of stacks there are, of the depths 0 to this one."""
    checked = check_machine(machine)
    if not is_number(depth):
        raise Refused(depth)
    many, _, steps, tops = stack_machine(checked, most=most)
    ways = [1] + [0] * (many - 1)
    counts = []
    for _ in range(depth + 1):
        counts.append(sum([way * len(row) for way, row in zip(ways, tops)]))
        behind = [0] * many
        for way, row in zip(ways, steps):
            for _, state in row:
                behind[state] += way
        ways = behind
    return tuple(counts)


def count(machine, depth, *, most):
    """How many kinds of stacks of a depth there are."""
    return counts_to(machine, depth, most=most)[-1]


def count_matrix(machine, *, most):
    """(by state, by state how many steps lead from the one to the other; by state how many tops it has)."""
    many, _, steps, tops = stack_machine(machine, most=most)
    matrix = []
    for row in steps:
        behind = [state for _, state in row]
        matrix.append(tuple([behind.count(state) for state in range(many)]))
    return tuple(matrix), tuple([len(row) for row in tops])
