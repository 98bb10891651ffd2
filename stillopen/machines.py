"""Machines that read documents: their check, their answers, and others made of them."""

from stillopen.documents import signs_of
from stillopen.errors import BadMachine, Refused
from stillopen.machineforms import STATES_MOST, WORDS_MOST
from stillopen.machineforms import are_inners, are_labels, are_texts, are_tops, as_tuples
from stillopen.reach import inner_states, machine_from, top_states
from stillopen.words import LETTERS, is_number_below, is_row_of, is_sequence


def check_machine(value):
    """The machine as tuples; BadMachine for any value that is none."""
    if not is_row_of(value, 4):
        raise BadMachine(-1)
    labels, texts, tops, inners = value
    if not are_labels(labels):
        raise BadMachine(0)
    if not are_texts(texts):
        raise BadMachine(1)
    if not are_inners(inners, labels, texts):
        raise BadMachine(3)
    if not are_tops(tops, texts, inners[0]):
        raise BadMachine(2)
    top = (tops[0], tops[1], as_tuples(tops[2]), as_tuples(tops[3]), as_tuples(tops[4]))
    inner = (inners[0], tuple(inners[1]), as_tuples(inners[2]), as_tuples(inners[3]))
    return tuple(labels), tuple(texts), top, inner


def kind_of(names, value):
    """The place of a string among names, or how many these are."""
    for place, name in enumerate(names):
        if name == value:
            return place
    return len(names)


def answer(machine, document):
    """The answer of a machine to a document."""
    labels, texts, tops, inners = check_machine(machine)
    states = [tops[1]]
    for sign in signs_of(document):
        part = tops if len(states) == 1 else inners
        if sign[0] == "text":
            states[-1] = part[2][kind_of(texts, sign[1])][states[-1]]
        elif sign[0] == "open":
            states.append(inners[1][kind_of(labels, sign[1])])
        else:
            child = states.pop()
            part = tops if len(states) == 1 else inners
            states[-1] = part[3][child][states[-1]]
    return tops[4][states[0]]


def label_beside(labels):
    """The least label of one letter that is not among labels."""
    return [letter for letter in LETTERS if letter not in labels][0]


def text_beside(texts):
    """The shortest text of letters a that is not among texts."""
    text = ""
    while text in texts:
        text += "a"
    return text


def other_label(machine):
    """The least label of one letter that a machine does not name."""
    return label_beside(check_machine(machine)[0])


def other_text(machine):
    """The shortest text of letters a that a machine does not name."""
    return text_beside(check_machine(machine)[1])


def _lacks(names, wanted):
    """Whether some wanted name is not among names."""
    return any([name not in names for name in wanted])


def new_kinds(names, wider):
    """By kind of wider names the kind of these names, that of all others last."""
    return [kind_of(names, name) for name in wider] + [len(names)]


def widened(machine, labels, texts):
    """The machine with the same states that names these labels and texts, and answers alike."""
    old_labels, old_texts, tops, inners = check_machine(machine)
    if not are_labels(labels) or _lacks(labels, old_labels):
        raise Refused(labels)
    if not are_texts(texts) or _lacks(texts, old_texts):
        raise Refused(texts)
    starts = tuple([inners[1][kind] for kind in new_kinds(old_labels, labels)])
    kinds = new_kinds(old_texts, texts)
    inner_texts = tuple([inners[2][kind] for kind in kinds])
    top_texts = tuple([tops[2][kind] for kind in kinds])
    inner = (inners[0], starts, inner_texts, inners[3])
    return tuple(labels), tuple(texts), tops[:2] + (top_texts,) + tops[3:], inner


def _with_answers(machine, answers):
    """The machine that gives other answers, by top state."""
    labels, texts, tops, inners = machine
    return labels, texts, tops[:4] + (tuple(answers),), inners


def not_of(machine):
    """The machine that says False where this one says True, and True where it says False."""
    checked = check_machine(machine)
    return _with_answers(checked, [tuple([not word for word in words]) for words in checked[2][4]])


def all_of(machine):
    """The machine that answers whether all words are True."""
    checked = check_machine(machine)
    return _with_answers(checked, [(all(words),) for words in checked[2][4]])


def any_of(machine):
    """The machine that answers whether some words are True."""
    checked = check_machine(machine)
    return _with_answers(checked, [(any(words),) for words in checked[2][4]])


def chosen(machine, places):
    """The machine that answers with the words at these places, in their order."""
    checked = check_machine(machine)
    answers = checked[2][4]
    if not is_sequence(places) or not 1 <= len(places) <= WORDS_MOST:
        raise Refused(places)
    if not all([is_number_below(place, len(answers[0])) for place in places]):
        raise Refused(places)
    return _with_answers(checked, [tuple([words[place] for place in places]) for words in answers])


def _part_steps(starts, texts, children):
    """The steps of the rows of a machine, by its maps."""
    return (
        starts,
        lambda state: [row[state] for row in texts],
        lambda child, state: children[child][state],
    )


def inner_steps_of(machine):
    """The steps of a machine's inner rows."""
    _, starts, texts, children = machine[3]
    return _part_steps(starts, texts, children)


def top_steps_of(machine):
    """The steps of a machine's top rows."""
    _, start, texts, children, _ = machine[2]
    return _part_steps((start,), texts, children)


def come_to(machine):
    """(the inner states, the top states) that rows come to, of a machine that was checked."""
    inner = inner_states(inner_steps_of(machine), STATES_MOST)
    return inner, top_states(top_steps_of(machine), inner, STATES_MOST)


def trimmed(machine):
    """A machine that answers alike and names the same, of those states alone that rows come to."""
    checked = check_machine(machine)
    inner, top = come_to(checked)
    answers = [checked[2][4][state] for state in top]
    return machine_from(checked[:2], (inner_steps_of(checked), inner), (top_steps_of(checked), top), answers)


def paired(one, other):
    """The steps of pairs of states, by the steps of either."""
    starts, text_steps, child_step = one
    starts_too, text_steps_too, child_step_too = other
    return (
        list(zip(starts, starts_too)),
        lambda pair: list(zip(text_steps(pair[0]), text_steps_too(pair[1]))),
        lambda child, pair: (child_step(child[0], pair[0]), child_step_too(child[1], pair[1])),
    )


def all_names(one, other):
    """(the ascending labels, the ascending texts) that one or the other names; Refused if these are too many."""
    labels = tuple(sorted(set(one[0] + other[0])))
    if not are_labels(labels):
        raise Refused(labels)
    texts = tuple(sorted(set(one[1] + other[1])))
    if not are_texts(texts):
        raise Refused(texts)
    return labels, texts


def side_by_side(machine, other):
    """A machine that answers with the words of the one, then with those of the other one."""
    one = check_machine(machine)
    two = check_machine(other)
    names = all_names(one, two)
    one = widened(one, names[0], names[1])
    two = widened(two, names[0], names[1])
    inner_steps = paired(inner_steps_of(one), inner_steps_of(two))
    inner = inner_states(inner_steps, STATES_MOST)
    if len(inner) > STATES_MOST:
        raise BadMachine(3)
    top_steps = paired(top_steps_of(one), top_steps_of(two))
    top = top_states(top_steps, inner, STATES_MOST)
    answers = [one[2][4][pair[0]] + two[2][4][pair[1]] for pair in top]
    if len(top) > STATES_MOST or len(answers[0]) > WORDS_MOST:
        raise BadMachine(2)
    return machine_from(names, (inner_steps, inner), (top_steps, top), answers)
