"""Papers that tell how fast the kinds of a words machine grow at least."""

from stillopen.growthranks import all_ranks, has_two_steps
from stillopen.wordgraph import lot_numbers, next_states, shortest_way
from stillopen.words import is_number, is_row_of, is_sequence


def _only(words, goal):
    """By state whether it is this one."""
    return [state == goal for state in range(words[0])]


def _to_tops(words, state):
    """The letters of a shortest way from a useful state to one with tops."""
    return shortest_way(words, state, [len(row) > 0 for row in words[3]])[0]


def _step_of(words, state, letter):
    """The state behind a letter, None if there is no such step."""
    for other, behind in words[2][state]:
        if other == letter:
            return behind
    return None


def _round_by(words, state, letter):
    """The letters of a shortest way from a state by a letter back to it."""
    return (letter,) + shortest_way(words, _step_of(words, state, letter), _only(words, state))[0]


def two_paper(words):
    """The paper of a words machine one state of which has two steps to its loop."""
    state, letter, other = has_two_steps(words)
    way = shortest_way(words, words[1], _only(words, state))[0]
    one = _round_by(words, state, letter)
    two = _round_by(words, state, other)
    # Each stands ahead of the other one once: as many letters each, and unlike from the first one on.
    return ("two", way, one + two, two + one, _to_tops(words, state))


def row_paper(words):
    """The paper of a words machine no state of which has two steps to its loop, and which has kinds."""
    told = all_ranks(words)
    state = words[1]
    pairs = []
    for rank in reversed(range(told[state][0])):
        goals = [one is not None and one[0] == rank + 1 and one[2] is not None for one in told]
        way, state = shortest_way(words, state, goals)
        pairs.append((way, _round_by(words, state, told[state][2])))
    return ("row", tuple(pairs), _to_tops(words, state))


def _led_by(words, state, letters):
    """The state to which any value leads a state as letters, None if it does not."""
    if not is_sequence(letters):
        return None
    led = state
    for letter in letters:
        led = _step_of(words, led, letter) if is_number(letter) else None
        if led is None:
            return None
    return led


def _leads_to_tops(words, state, letters):
    """Whether any value leads as letters from a state to one with tops."""
    led = _led_by(words, state, letters)
    return led is not None and len(words[3][led]) > 0


def is_two_paper(words, value):
    """Whether any value is a paper of two ways round."""
    if not is_row_of(value, 5) or value[0] != "two":
        return False
    _, way, one, other, end = value
    state = _led_by(words, words[1], way)
    if state is None or _led_by(words, state, one) != state or _led_by(words, state, other) != state:
        return False
    return len(one) == len(other) and tuple(one) != tuple(other) and _leads_to_tops(words, state, end)


def is_row_paper(words, value):
    """Whether any value is a paper of loops, one behind another."""
    if not is_row_of(value, 3) or value[0] != "row" or not is_sequence(value[1]):
        return False
    numbers = lot_numbers(next_states(words), [True] * words[0])
    state = words[1]
    ahead = None
    for pair in value[1]:
        if not is_row_of(pair, 2):
            return False
        state = _led_by(words, state, pair[0])
        if state is None or _led_by(words, state, pair[1]) != state or len(pair[1]) == 0:
            return False
        # The one ahead leads here: if this one led back to it, or to one further ahead, both would be of one lot.
        if numbers[state] == ahead:
            return False
        ahead = numbers[state]
    return _leads_to_tops(words, state, value[2])
