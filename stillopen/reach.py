"""Machines made of states of any kind: which of these rows come to, and how they are numbered.

The steps of rows are told as three: the states in which rows begin; a function that tells of a state, by kind of
text, the state behind such a text; and one that tells of the state of an element's row, then of a state, the state
behind this element.
"""


def put_new(news, states, numbers):
    """Puts those states behind the others that are not yet among them."""
    for state in news:
        if state not in numbers:
            numbers[state] = len(states)
            states.append(state)


def numbered(things):
    """By place a number, the same one for equal things, in the order in which they first stand there."""
    numbers = {}
    return [numbers.setdefault(thing, len(numbers)) for thing in things]


def _all_states(steps, most, behind_elements):
    """The states that rows come to; if these are more than most, more than most of them.

    behind_elements tells of a state, and of those that were told of ahead and itself, states behind elements.
    """
    starts, text_steps, _ = steps
    states = []
    numbers = {}
    put_new(starts, states, numbers)
    at = 0
    while at < len(states) <= most:
        state = states[at]
        at += 1
        put_new(text_steps(state), states, numbers)
        put_new(behind_elements(state, states[:at]), states, numbers)
    return states


def inner_states(steps, most):
    """The states that inner rows come to; if these are more than most, more than most of them."""
    child_step = steps[2]

    def behind_elements(state, told):
        """The states behind elements that a state and one that was told of lead to, either in the other."""
        pairs = [(child_step(state, other), child_step(other, state)) for other in told]
        return [behind for pair in pairs for behind in pair]

    return _all_states(steps, most, behind_elements)


def top_states(steps, children, most):
    """The states that top rows come to, told likewise, where elements end in these children."""
    child_step = steps[2]
    return _all_states(steps, most, lambda state, _: [child_step(child, state) for child in children])


def _maps(steps, states, children):
    """(the starts, by kind of text a map, by child a map), by the numbers of states."""
    starts, text_steps, child_step = steps
    numbers = {state: number for number, state in enumerate(states)}
    behind = [text_steps(state) for state in states]
    by_text = [tuple([numbers[row[kind]] for row in behind]) for kind in range(len(behind[0]))]
    by_child = [tuple([numbers[child_step(child, state)] for state in states]) for child in children]
    return tuple([numbers[state] for state in starts]), tuple(by_text), tuple(by_child)


def machine_from(names, inner, top, answers):
    """The machine of these names, of (steps, states) of inner and of top rows, of answers by top state."""
    inner_steps, inner_row = inner
    top_steps, top_row = top
    starts, inner_texts, inner_children = _maps(inner_steps, inner_row, inner_row)
    first, top_texts, top_children = _maps(top_steps, top_row, inner_row)
    labels, texts = names
    tops = (len(top_row), first[0], top_texts, top_children, tuple(answers))
    return labels, texts, tops, (len(inner_row), starts, inner_texts, inner_children)
