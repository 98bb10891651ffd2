"""What ladders are: readers that are told the depth, level by level."""

from stillopen.machineforms import are_answers, are_labels, are_maps, are_texts, as_tuples, is_map
from stillopen.words import is_number, is_number_below, is_row_of, is_sequence


def _is_nothing(value):
    """Whether any value is a sequence of no parts."""
    return is_row_of(value, 0)


def _are_opens(value, length, many, within):
    """Whether any value is so many maps of many states into those of the level within, nothing if there is none."""
    if within is None:
        return _is_nothing(value)
    if not is_row_of(value, length):
        return False
    return all([is_map(row, many, within[0]) for row in value])


def _is_close(value, many, around):
    """Whether any value is a map of many states into those of the level around, nothing if there is none."""
    if around is None:
        return _is_nothing(value)
    return is_map(value, many, around[0])


def _are_levels(value, labels, texts):
    """Whether any value is the levels of a ladder with these names."""
    if not is_sequence(value) or len(value) == 0:
        return False
    for level in value:
        if not is_row_of(level, 4) or not is_number(level[0]) or level[0] == 0:
            return False
    around = [None] + list(value[:-1])
    within = list(value[1:]) + [None]
    for level, outer, inner in zip(value, around, within):
        many, strings, opens, close = level
        if not are_maps(strings, len(texts) + 1, many) or not _are_opens(opens, len(labels) + 1, many, inner):
            return False
        if not _is_close(close, many, outer):
            return False
    return True


def is_ladder(value):
    """Whether any value is a ladder."""
    if not is_row_of(value, 5):
        return False
    labels, texts, start, levels, answers = value
    if not are_labels(labels) or not are_texts(texts) or not _are_levels(levels, labels, texts):
        return False
    return is_number_below(start, levels[0][0]) and are_answers(answers, levels[0][0])


def ladder_as_tuples(ladder):
    """The ladder as tuples, also within."""
    labels, texts, start, levels, answers = ladder
    rows = []
    for many, strings, opens, close in levels:
        rows.append((many, as_tuples(strings), as_tuples(opens), tuple(close)))
    return tuple(labels), tuple(texts), start, tuple(rows), as_tuples(answers)
