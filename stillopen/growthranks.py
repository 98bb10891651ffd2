"""Ranks of the states of a words machine: how many loops stand at most on a way from each."""

from stillopen.wordgraph import are_useful, is_loop, lot_numbers, lots_of, next_states
from stillopen.words import is_number, is_row_of


def has_two_steps(words):
    """Some (state, letter, letter) of two steps of a useful state to its own loop; None if there is none."""
    numbers = lot_numbers(next_states(words), are_useful(words))
    for state, row in enumerate(words[2]):
        letters = [letter for letter, behind in row if numbers[state] is not None and numbers[behind] == numbers[state]]
        if len(letters) > 1:
            return state, letters[0], letters[1]
    return None


def all_ranks(words):
    """By state (rank, place, letter), None of those that are not useful; no state has two steps to its loop."""
    nexts = next_states(words)
    useful = are_useful(words)
    told = [None] * len(nexts)
    # The lots that a lot leads to stand behind it: from the last one on, all is told of what is behind.
    for lot in reversed(lots_of(nexts, useful)):
        outward = [told[behind] for state in lot for behind in nexts[state] if told[behind] is not None]
        rank = max([one[0] for one in outward], default=0)
        if is_loop(nexts, lot):
            for state in lot:
                own = [letter for letter, behind in words[2][state] if behind in lot]
                told[state] = (rank + 1, 0, own[0])
        else:
            told[lot[0]] = (rank, max([one[1] + 1 for one in outward if one[0] == rank], default=0), None)
    return told


def _is_rank(value):
    """Whether any value is (number, number, number or None)."""
    if not is_row_of(value, 3) or not is_number(value[0]) or not is_number(value[1]):
        return False
    return value[2] is None or is_number(value[2])


def _leads_down(one, letter, other):
    """Whether a step by a letter leads from a rank to no greater one, and within it as it may."""
    if one[0] != other[0]:
        return other[0] < one[0]
    if one[2] is None:
        return other[1] < one[1]
    return letter == one[2] and other[2] is not None


def are_ranks_of(words, value):
    """Whether any value tells of the states of a words machine ranks to which steps lead down."""
    if not is_row_of(value, words[0]) or not all([one is None or _is_rank(one) for one in value]):
        return False
    for state, is_told in enumerate(are_useful(words)):
        if not is_told:
            continue
        one = value[state]
        if one is None or (one[2] is not None and one[0] == 0):
            return False
        for letter, behind in words[2][state]:
            if value[behind] is not None and not _leads_down(one, letter, value[behind]):
                return False
    return True
