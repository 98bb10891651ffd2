"""What forests do: the maps that they make of the states of rows, and the states in which elements end."""

from stillopen.documents import signs_of
from stillopen.errors import Refused
from stillopen.leastrows import least_elements, least_led, sign_steps
from stillopen.machineforms import is_map
from stillopen.machines import check_machine, come_to
from stillopen.words import is_number_below


def _maps(machine, part):
    """By map that forests make of the states of a part's rows (how many signs, such a forest of fewest signs)."""
    same = tuple(range(part[0]))
    return least_led([(0, same, ())], sign_steps(machine, part[2], part[3]))


def _ascending(led):
    """Ascending what was told of, each with its signs."""
    return tuple(sorted([(made, signs) for made, (_, signs) in led.items()]))


def _forest(machine, part, made):
    """The signs told of a map; Refused for any value that is none of a part's maps."""
    if not is_map(made, part[0], part[0]):
        raise Refused(made)
    led = _maps(machine, part)
    if tuple(made) not in led:
        raise Refused(made)
    return led[tuple(made)][1]


def inner_maps(machine):
    """Ascending (map, signs of some forest of fewest signs) of the inner maps that forests make."""
    checked = check_machine(machine)
    return _ascending(_maps(checked, checked[3]))


def top_maps(machine):
    """Ascending (map, signs of some forest of fewest signs) of the top maps that forests make."""
    checked = check_machine(machine)
    return _ascending(_maps(checked, checked[2]))


def results(machine):
    """Ascending (state, signs of some element of fewest signs) of the states in which elements end."""
    checked = check_machine(machine)
    return tuple(sorted([(state, signs_of((told[1],))) for state, told in least_elements(checked).items()]))


def inner_forest(machine, made):
    """The signs told of an inner map."""
    checked = check_machine(machine)
    return _forest(checked, checked[3], made)


def top_forest(machine, made):
    """The signs told of a top map."""
    checked = check_machine(machine)
    return _forest(checked, checked[2], made)


def element_to(machine, state):
    """The signs told of a state in which elements end."""
    checked = check_machine(machine)
    if not is_number_below(state, checked[3][0]):
        raise Refused(state)
    led = least_elements(checked)
    if state not in led:
        raise Refused(state)
    return signs_of((led[state][1],))


def inner_reached(machine):
    """The ascending states to which inner rows come."""
    inner, _ = come_to(check_machine(machine))
    return tuple(sorted(inner))


def top_reached(machine):
    """The ascending states to which top rows come."""
    _, top = come_to(check_machine(machine))
    return tuple(sorted(top))
