"""Least machines: of all that answer alike the one of fewest names and states, numbered as they are come to."""

from stillopen.machines import check_machine, trimmed
from stillopen.reach import machine_from, numbered, put_new, top_states


def _around_inner(machine, inner_lots, top_lots, state):
    """The lot of an inner state, and those of all that is one node or one closing behind it."""
    _, _, tops, inners = machine
    lots = [inner_lots[state]]
    lots.extend([inner_lots[row[state]] for row in inners[2] + inners[3]])
    lots.extend([inner_lots[behind] for behind in inners[3][state]])
    lots.extend([top_lots[behind] for behind in tops[3][state]])
    return tuple(lots)


def _around_top(machine, top_lots, state):
    """The lot of a top state, and those of all that is one node behind it."""
    tops = machine[2]
    return (top_lots[state],) + tuple([top_lots[row[state]] for row in tops[2] + tops[3]])


def _lots_of_states(machine):
    """(by inner state, by top state the number of its lot): states of one lot are not parted; all are come to."""
    _, _, tops, inners = machine
    inner_lots = [0] * inners[0]
    top_lots = numbered(tops[4])
    many = 0
    while many < max(inner_lots) + max(top_lots) + 2:
        many = max(inner_lots) + max(top_lots) + 2
        inner_sights = [_around_inner(machine, inner_lots, top_lots, state) for state in range(inners[0])]
        top_sights = [_around_top(machine, top_lots, state) for state in range(tops[0])]
        inner_lots = numbered(inner_sights)
        top_lots = numbered(top_sights)
    return inner_lots, top_lots


def _own_kinds(doings):
    """The kinds of names that do otherwise than those not named, and behind them the kind of these."""
    last = len(doings) - 1
    return [kind for kind, doing in enumerate(doings) if kind == last or doing != doings[last]]


def _doings(maps, lots):
    """By map the lots to which it leads, by state."""
    return [tuple([lots[state] for state in row]) for row in maps]


def _first_states(lots):
    """By lot the first state of it."""
    first = {}
    for state, lot in enumerate(lots):
        first.setdefault(lot, state)
    return first


def _lot_steps(starts, texts, children, lots, child_lots):
    """The steps of rows whose states are lots; children are told by their lots, too."""
    first = _first_states(lots)
    first_child = _first_states(child_lots)
    return (
        [lots[state] for state in starts],
        lambda lot: [lots[row[first[lot]]] for row in texts],
        lambda child, lot: lots[children[first_child[child]][first[lot]]],
    )


def _turn_by_turn(steps):
    """The inner states that rows come to, as the least machine numbers them."""
    starts, text_steps, child_step = steps
    states = []
    numbers = {}
    put_new(starts, states, numbers)
    many = 0
    while many < len(states):
        many = len(states)
        turn = list(states)
        for state in turn:
            behind_children = [child_step(child, state) for child in states]
            put_new(text_steps(state) + behind_children, states, numbers)
    return states


def least_machine(machine):
    """The machine that answers alike and has the fewest names and states."""
    labels, texts, tops, inners = trimmed(machine)
    inner_lots, top_lots = _lots_of_states((labels, texts, tops, inners))
    label_kinds = _own_kinds([inner_lots[start] for start in inners[1]])
    doings = list(zip(_doings(inners[2], inner_lots), _doings(tops[2], top_lots)))
    text_kinds = _own_kinds(doings)
    starts = [inners[1][kind] for kind in label_kinds]
    inner_texts = [inners[2][kind] for kind in text_kinds]
    inner_steps = _lot_steps(starts, inner_texts, inners[3], inner_lots, inner_lots)
    inner = _turn_by_turn(inner_steps)
    top_texts = [tops[2][kind] for kind in text_kinds]
    top_steps = _lot_steps([tops[1]], top_texts, tops[3], top_lots, inner_lots)
    top = top_states(top_steps, inner, tops[0])
    names = tuple([labels[kind] for kind in label_kinds[:-1]]), tuple([texts[kind] for kind in text_kinds[:-1]])
    answers = [tops[4][top_lots.index(lot)] for lot in top]
    return machine_from(names, (inner_steps, inner), (top_steps, top), answers)


def is_least(machine):
    """Whether a machine is its own least one."""
    return check_machine(machine) == least_machine(machine)
