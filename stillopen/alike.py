"""Documents of fewest signs that tell what a machine answers, or two machines apart."""

from stillopen.errors import Refused
from stillopen.leastrows import least_led, node_steps
from stillopen.machines import answer, check_machine, side_by_side
from stillopen.words import is_number_below


def _documents(machine):
    """By top state that documents come to the least (how many signs, some such document), the fewest first."""
    _, start, texts, children, _ = machine[2]
    led = least_led([(0, (start,), ())], node_steps(machine, texts, children))
    return {states[0]: told for states, told in led.items()}


def least_where(machine, is_wanted):
    """Some document of fewest signs whose answer is wanted, None if there is none."""
    for state, (_, document) in _documents(machine).items():
        if is_wanted(machine[2][4][state]):
            return document
    return None


def least_documents(machine):
    """By top state that documents come to (how many signs, some such document of fewest signs)."""
    return _documents(check_machine(machine))


def least_with(machine, place, word):
    """Some document of fewest signs whose answer has this word at this place, None if there is none."""
    checked = check_machine(machine)
    if not is_number_below(place, len(checked[2][4][0])):
        raise Refused(place)
    if not isinstance(word, bool):
        raise Refused(word)
    return least_where(checked, lambda words: words[place] == word)


def _pair_of(machine, other):
    """(the machine of the answers of both, how many words each answer has); Refused if they have unlike many."""
    one = check_machine(machine)
    two = check_machine(other)
    many = len(one[2][4][0])
    if many != len(two[2][4][0]):
        raise Refused(other)
    return side_by_side(one, two), many


def least_apart(machine, other):
    """Some document of fewest signs to which two machines answer unlike, None if they answer alike."""
    both, many = _pair_of(machine, other)
    return least_where(both, lambda words: words[:many] != words[many:])


def are_alike(machine, other):
    """Whether two machines answer each document alike."""
    return least_apart(machine, other) is None


def least_beyond(machine, other):
    """Some document of fewest signs to which the one says True where the other one says False, None if none is."""
    both, many = _pair_of(machine, other)
    return least_where(both, lambda words: any([words[place] and not words[many + place] for place in range(many)]))


def parts(machine, other, document):
    """Whether two machines answer a document unlike."""
    one = check_machine(machine)
    two = check_machine(other)
    return answer(one, document) != answer(two, document)
