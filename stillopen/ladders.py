"""Ladders: readers that are told the depth; and the keeper as one of them."""

from stillopen.documents import document_of
from stillopen.errors import Refused, TooGreat
from stillopen.kindlevels import KindLevels
from stillopen.ladderforms import is_ladder, ladder_as_tuples
from stillopen.ladderrows import LadderRows
from stillopen.machines import all_names, check_machine, come_to, kind_of, new_kinds, widened
from stillopen.rowmaps import spread
from stillopen.streams import check_stream
from stillopen.words import is_number


def check_ladder(value):
    """The ladder as tuples; Refused for any value that is none."""
    if not is_ladder(value):
        raise Refused(value)
    return ladder_as_tuples(value)


def ladder_word(ladder, stream):
    """The answer of a ladder's state at the end of a stream."""
    labels, texts, state, levels, answers = check_ladder(ladder)
    level = 0
    for sign in check_stream(stream):
        _, strings, opens, close = levels[level]
        if sign[0] == "text":
            state = strings[kind_of(texts, sign[1])][state]
        elif sign[0] == "close":
            state = close[state]
            level -= 1
        else:
            level += 1
            if level == len(levels):
                raise Refused(stream)
            state = opens[kind_of(labels, sign[1])][state]
    return answers[state]


def _side_by_side(machine, ladder):
    """(a machine, a ladder), checked, that name the same, and do as these."""
    labels, texts = all_names(machine, ladder)
    label_kinds = new_kinds(ladder[0], labels)
    text_kinds = new_kinds(ladder[1], texts)
    levels = []
    for many, strings, opens, close in ladder[3]:
        new_opens = tuple([opens[kind] for kind in label_kinds]) if len(opens) > 0 else ()
        levels.append((many, tuple([strings[kind] for kind in text_kinds]), new_opens, close))
    return widened(machine, labels, texts), (labels, texts, ladder[2], tuple(levels), ladder[4])


def ladder_apart(machine, ladder):
    """Some document of fewest signs, of those that a ladder reads, to which it and a machine answer unlike."""
    one = check_machine(machine)
    two = check_ladder(ladder)
    if len(one[2][4][0]) != len(two[4][0]):
        raise Refused(ladder)
    one, two = _side_by_side(one, two)
    led = LadderRows(one, two).least_streams((two[2], one[2][1]))
    for (state, top), (_, signs) in led.items():
        if two[4][state] != one[2][4][top]:
            return document_of(signs)
    return None


def ladder_kinds(machine, ladder, *, most):
    """By depth, ascending, the (state of a ladder, least stack) of prefixes of streams that it reads."""
    one = check_machine(machine)
    two = check_ladder(ladder)
    one, two = _side_by_side(one, two)
    by_element = LadderRows(one, two).by_element
    levels = KindLevels(one)
    firsts = [(two[2], levels.start_kind())]
    told = []
    for depth, (_, strings, opens, _) in enumerate(two[3]):
        pairs = levels.pairs_beside(depth, firsts, strings, by_element[depth])
        if len(pairs) > most:
            raise TooGreat(most)
        told.append(tuple(sorted([(state, levels.least_stack(depth, kind)) for state, kind in pairs])))
        firsts = []
        if len(opens) > 0:
            levels.add_level()
        for at, row in enumerate(opens):
            firsts.extend([(row[state], levels.behind_opening(depth, kind, at)) for state, kind in pairs])
    return tuple(told)


def _keeper_level(levels, depth, last):
    """The level of a keeper's ladder, of which this is the depth, and last the last one."""
    kinds = list(range(levels.many(depth)))
    strings = []
    for at in range(len(levels.machine[1]) + 1):
        strings.append(tuple([levels.behind_text(depth, kind, at) for kind in kinds]))
    opens = []
    for at in range(len(levels.machine[0]) + 1 if depth < last else 0):
        opens.append(tuple([levels.behind_opening(depth, kind, at) for kind in kinds]))
    close = tuple([levels.behind_closing(depth, kind) for kind in kinds]) if depth > 0 else ()
    return levels.many(depth), tuple(strings), tuple(opens), close


def keeper_ladder(machine, depth, *, most):
    """The ladder whose states, of the depths 0 to this one, are all least stacks, led as prefixes lead them."""
    checked = check_machine(machine)
    if not is_number(depth):
        raise Refused(depth)
    levels = KindLevels(checked)
    for level in range(depth):
        if levels.many(level) * len(levels.inner_states) > most:
            raise TooGreat(most)
        levels.add_level()
    rows = tuple([_keeper_level(levels, level, depth) for level in range(depth + 1)])
    answers = tuple([checked[2][4][levels.least_stack(0, kind)[0]] for kind in range(levels.many(0))])
    return checked[0], checked[1], levels.start_kind(), rows, answers


def _row_ends(part, children):
    """The inner states to which rows of texts, and of elements that end in these children, lead."""
    maps = list(part[2]) + [part[3][child] for child in children]
    return spread(part[1], lambda state: [row[state] for row in maps])


def full_depth(machine):
    """With how many levels, at least, elements can end in each state in which elements end at all."""
    checked = check_machine(machine)
    inner, _ = come_to(checked)
    ends = _row_ends(checked[3], [])
    levels = 1
    while len(ends) < len(inner):
        ends = _row_ends(checked[3], ends)
        levels += 1
    return levels
