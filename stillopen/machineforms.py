"""What names, maps and machines are."""

from stillopen.words import is_label, is_number, is_number_below, is_row_of, is_sequence, is_text

LABELS_MOST = 6
TEXTS_MOST = 4
STATES_MOST = 200
WORDS_MOST = 8


def are_labels(value):
    """Whether any value is at most 6 ascending labels."""
    if not is_sequence(value) or len(value) > LABELS_MOST:
        return False
    return all([is_label(name) for name in value]) and _is_ascending(value)


def are_texts(value):
    """Whether any value is at most 4 ascending texts."""
    if not is_sequence(value) or len(value) > TEXTS_MOST:
        return False
    return all([is_text(name) for name in value]) and _is_ascending(value)


def _is_ascending(names):
    """Whether each of some names is less than the one behind it."""
    return all([one < other for one, other in zip(names, names[1:])])


def is_state_count(value):
    """Whether any value is a number of states that a machine can have."""
    return is_number(value) and 1 <= value <= STATES_MOST


def is_map(value, length, many):
    """Whether any value is a sequence of so many numbers of states, of which there are many."""
    if not is_row_of(value, length):
        return False
    for state in value:
        if not isinstance(state, int) or isinstance(state, bool) or not 0 <= state < many:
            return False
    return True


def are_maps(value, length, many):
    """Whether any value is a sequence of so many maps of states, of which there are many."""
    if not is_row_of(value, length):
        return False
    for row in value:
        if not is_map(row, many, many):
            return False
    return True


def are_answers(value, many):
    """Whether any value is a sequence of so many answers, all of one length."""
    if not is_row_of(value, many) or not is_sequence(value[0]) or not 1 <= len(value[0]) <= WORDS_MOST:
        return False
    return all([is_answer(one, len(value[0])) for one in value])


def is_answer(value, length):
    """Whether any value is a sequence of so many words True and False."""
    return is_row_of(value, length) and all([isinstance(word, bool) for word in value])


def are_inners(value, labels, texts):
    """Whether any value is the inner part of a machine with these names."""
    if not is_row_of(value, 4):
        return False
    many, starts, by_text, children = value
    if not is_state_count(many) or not is_map(starts, len(labels) + 1, many):
        return False
    return are_maps(by_text, len(texts) + 1, many) and are_maps(children, many, many)


def are_tops(value, texts, inner_many):
    """Whether any value is the top part of a machine with these texts and so many inner states."""
    if not is_row_of(value, 5):
        return False
    many, start, by_text, children, answers = value
    if not is_state_count(many) or not is_number_below(start, many):
        return False
    if not are_maps(by_text, len(texts) + 1, many) or not are_maps(children, inner_many, many):
        return False
    return are_answers(answers, many)


def as_tuples(rows):
    """Sequences as tuples."""
    return tuple([tuple(row) for row in rows])
