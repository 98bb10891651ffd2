"""Readers: automata of few states that read streams sign by sign and are not told the depth."""

from stillopen.alike import least_where
from stillopen.errors import Refused, TooGreat
from stillopen.kindlevels import KindLevels
from stillopen.machineforms import are_answers, are_labels, are_maps, are_texts, as_tuples, is_map
from stillopen.machines import all_names, check_machine, inner_steps_of, kind_of, new_kinds, paired
from stillopen.machines import top_steps_of, widened
from stillopen.reach import inner_states, machine_from, top_states
from stillopen.streams import check_stream
from stillopen.words import is_number, is_number_below, is_row_of

STATES_MOST = 3


def _is_reader(value):
    """Whether any value is a reader."""
    if not is_row_of(value, 8):
        return False
    labels, texts, many, start, opens, strings, close, answers = value
    if not are_labels(labels) or not are_texts(texts):
        return False
    if not is_number(many) or not 1 <= many <= STATES_MOST or not is_number_below(start, many):
        return False
    if not are_maps(opens, len(labels) + 1, many) or not are_maps(strings, len(texts) + 1, many):
        return False
    return is_map(close, many, many) and are_answers(answers, many)


def check_reader(value):
    """The reader as tuples; Refused for any value that is none."""
    if not _is_reader(value):
        raise Refused(value)
    labels, texts, many, start, opens, strings, close, answers = value
    names = (tuple(labels), tuple(texts))
    return names + (many, start, as_tuples(opens), as_tuples(strings), tuple(close), as_tuples(answers))


def reader_word(reader, stream):
    """The answer of a reader's state at the end of a stream."""
    labels, texts, _, state, opens, strings, close, answers = check_reader(reader)
    for sign in check_stream(stream):
        if sign[0] == "open":
            state = opens[kind_of(labels, sign[1])][state]
        elif sign[0] == "text":
            state = strings[kind_of(texts, sign[1])][state]
        else:
            state = close[state]
    return answers[state]


def _behind(states, row):
    """The map that leads on by a map, behind another one."""
    return tuple([row[state] for state in states])


def _inner_steps(reader):
    """The steps of inner rows; their states are maps, from the state ahead of the opening to that behind the row."""
    _, _, _, _, opens, strings, close, _ = reader
    return (
        opens,
        lambda made: [_behind(made, row) for row in strings],
        lambda child, made: _behind(_behind(made, child), close),
    )


def _top_steps(reader):
    """The steps of top rows; their states are the reader's."""
    _, _, _, start, _, strings, close, _ = reader
    return (
        (start,),
        lambda state: [row[state] for row in strings],
        lambda child, state: close[child[state]],
    )


def _row_most(reader):
    """No rows come to more maps, or states, of a reader."""
    return reader[2] ** 3


def machine_of(reader):
    """A machine that answers each document as a reader does its stream."""
    checked = check_reader(reader)
    inner = inner_states(_inner_steps(checked), _row_most(checked))
    top = top_states(_top_steps(checked), inner, checked[2])
    answers = [checked[7][state] for state in top]
    return machine_from(checked[:2], (_inner_steps(checked), inner), (_top_steps(checked), top), answers)


def _side_by_side(machine, reader):
    """(a machine, a reader), checked, that name the same, and do as these."""
    names = all_names(machine, reader)
    opens = tuple([reader[4][kind] for kind in new_kinds(reader[0], names[0])])
    strings = tuple([reader[5][kind] for kind in new_kinds(reader[1], names[1])])
    return widened(machine, names[0], names[1]), names + reader[2:4] + (opens, strings) + reader[6:]


def _inner_pairs(machine, reader):
    """(the steps, the states that rows come to) of pairs of inner states of a machine and of a reader."""
    steps = paired(inner_steps_of(machine), _inner_steps(reader))
    return steps, inner_states(steps, machine[3][0] * _row_most(reader))


def reader_apart(machine, reader):
    """Some document of fewest signs to which a machine and a reader answer unlike, None if there is none."""
    one = check_machine(machine)
    two = check_reader(reader)
    if len(one[2][4][0]) != len(two[7][0]):
        raise Refused(reader)
    one, two = _side_by_side(one, two)
    inner_steps, inner = _inner_pairs(one, two)
    top_steps = paired(top_steps_of(one), _top_steps(two))
    top = top_states(top_steps, inner, one[2][0] * two[2])
    answers = [(one[2][4][state] != two[7][other],) for state, other in top]
    both = machine_from(one[:2], (inner_steps, inner), (top_steps, top), answers)
    return least_where(both, lambda words: words[0])


def is_right(machine, reader):
    """Whether a reader answers each document as a machine does."""
    return reader_apart(machine, reader) is None


def _element_steps(machine, reader):
    """By state of a reader the (state behind an element, inner state in which this ends) that there are."""
    found = [{} for _ in range(reader[2])]
    for child, made in _inner_pairs(machine, reader)[1]:
        for state in range(reader[2]):
            found[state][(reader[6][made[state]], child)] = True
    return found


def reader_kinds(machine, reader, depth, *, most):
    """Ascending the (state of a reader, least stack) that prefixes of a depth have."""
    one = check_machine(machine)
    two = check_reader(reader)
    if not is_number(depth):
        raise Refused(depth)
    one, two = _side_by_side(one, two)
    by_element = _element_steps(one, two)
    levels = KindLevels(one)
    pairs = levels.pairs_beside(0, [(two[3], levels.start_kind())], two[5], by_element)
    for level in range(depth):
        if len(pairs) > most:
            raise TooGreat(most)
        levels.add_level()
        firsts = []
        for state, kind in pairs:
            firsts.extend([(row[state], levels.behind_opening(level, kind, at)) for at, row in enumerate(two[4])])
        pairs = levels.pairs_beside(level + 1, firsts, two[5], by_element)
    if len(pairs) > most:
        raise TooGreat(most)
    return tuple(sorted([(state, levels.least_stack(depth, kind)) for state, kind in pairs]))
