"""Pieces: what rows of signs do with the stacks of a machine that was checked."""

from stillopen.machineforms import is_map
from stillopen.machines import kind_of
from stillopen.words import is_number_below, is_row_of, is_sequence


def _same(machine):
    """The (inner map, top map) that change nothing."""
    return tuple(range(machine[3][0])), tuple(range(machine[2][0]))


def nothing(machine):
    """The piece of no signs."""
    return (_same(machine),), ()


def of_sign(machine, sign):
    """The piece of a sign that was checked."""
    labels, texts, tops, inners = machine
    if sign[0] == "open":
        return (_same(machine),), (inners[1][kind_of(labels, sign[1])],)
    if sign[0] == "text":
        kind = kind_of(texts, sign[1])
        return ((inners[2][kind], tops[2][kind]),), ()
    return (_same(machine), _same(machine)), ()


def _lead_on(closes, opens, pair):
    """Leads the innermost level on by an (inner map, top map)."""
    if len(opens) > 0:
        opens[-1] = pair[0][opens[-1]]
        return
    inner, top = closes[-1]
    closes[-1] = (tuple([pair[0][state] for state in inner]), tuple([pair[1][state] for state in top]))


def put_together(machine, one, other):
    """The piece of the signs of one piece, and behind them those of another one."""
    _, _, tops, inners = machine
    closes = list(one[0])
    opens = list(one[1])
    for at, pair in enumerate(other[0]):
        if at > 0 and len(opens) == 0:
            closes.append(pair)
            continue
        if at > 0:
            child = opens.pop()
            _lead_on(closes, opens, (inners[3][child], tops[3][child]))
        _lead_on(closes, opens, pair)
    return tuple(closes), tuple(opens) + other[1]


def led_by(machine, stack, piece):
    """The stack behind signs of a piece that closes no more levels than are open."""
    _, _, tops, inners = machine
    states = list(stack)
    for at, (inner, top) in enumerate(piece[0]):
        if at > 0:
            child = states.pop()
            children = inners[3] if len(states) > 1 else tops[3]
            states[-1] = children[child][states[-1]]
        states[-1] = (inner if len(states) > 1 else top)[states[-1]]
    return tuple(states) + piece[1]


def _is_pair(machine, value):
    """Whether any value is an (inner map, top map)."""
    if not is_row_of(value, 2):
        return False
    inner, top = machine[3][0], machine[2][0]
    return is_map(value[0], inner, inner) and is_map(value[1], top, top)


def is_piece(machine, value):
    """Whether any value has the form of a piece."""
    if not is_row_of(value, 2) or not is_sequence(value[0]) or not is_sequence(value[1]) or len(value[0]) == 0:
        return False
    if not all([_is_pair(machine, pair) for pair in value[0]]):
        return False
    return all([is_number_below(state, machine[3][0]) for state in value[1]])


def piece_as_tuples(piece):
    """The piece as tuples, also within."""
    closes = [(tuple(inner), tuple(top)) for inner, top in piece[0]]
    return tuple(closes), tuple(piece[1])
