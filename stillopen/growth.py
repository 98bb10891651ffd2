"""Words machines: how many kinds they have of each depth, how these grow, and papers that tell it."""

from stillopen.errors import Refused
from stillopen.growthpapers import is_row_paper, is_two_paper, row_paper, two_paper
from stillopen.growthranks import all_ranks, are_ranks_of, has_two_steps
from stillopen.wordgraph import are_useful, is_loop, lots_of, next_states
from stillopen.words import is_number, is_number_below, is_row_of, is_sequence

STATES_MOST = 2000
TOPS_BELOW = 2000
MODULO_MOST = 12


def _are_steps(row, many):
    """Whether a value is the steps of one state of a words machine."""
    if not is_sequence(row):
        return False
    for step in row:
        if not is_row_of(step, 2) or not is_number(step[0]) or not is_number_below(step[1], many):
            return False
    return all([one[0] < other[0] for one, other in zip(row, row[1:])])


def _are_tops(row):
    """Whether a value is the tops of one state of a words machine."""
    if not is_sequence(row) or not all([is_number_below(top, TOPS_BELOW) for top in row]):
        return False
    return all([one < other for one, other in zip(row, row[1:])])


def _is_words_machine(value):
    """Whether any value is a words machine."""
    if not is_row_of(value, 4):
        return False
    many, start, steps, tops = value
    if not is_number(many) or many > STATES_MOST or not is_number_below(start, many):
        return False
    if not is_row_of(steps, many) or not is_row_of(tops, many):
        return False
    return all([_are_steps(row, many) for row in steps]) and all([_are_tops(row) for row in tops])


def check_words_machine(value):
    """The words machine as tuples; Refused for any value that is none."""
    if not _is_words_machine(value):
        raise Refused(value)
    many, start, steps, tops = value
    rows = [tuple([tuple(step) for step in row]) for row in steps]
    return many, start, tuple(rows), tuple([tuple(row) for row in tops])


def _behind(words, ways, kept):
    """By useful state how many rows of one letter more lead there, where there are any."""
    led = {}
    for state, many in ways.items():
        for _, behind in words[2][state]:
            if kept[behind]:
                led[behind] = led.get(behind, 0) + many
    return led


def _first_ways(words, kept):
    """By useful state how many rows of no letters lead there, where there are any."""
    return {words[1]: 1} if kept[words[1]] else {}


def _kinds(words, ways):
    """How many kinds there are where so many rows of letters lead to states."""
    return sum([many * len(words[3][state]) for state, many in ways.items()])


def counted(words, depth):
    """How many kinds there are of the depths 0 to this one."""
    checked = check_words_machine(words)
    if not is_number(depth):
        raise Refused(depth)
    kept = are_useful(checked)
    ways = _first_ways(checked, kept)
    kinds = [_kinds(checked, ways)]
    for _ in range(depth):
        ways = _behind(checked, ways, kept)
        kinds.append(_kinds(checked, ways))
    return tuple(kinds)


def most_kinds(words, depth):
    """The greatest number of kinds of the depths 0 to this one."""
    return max(counted(words, depth))


def bits_at(words, depth):
    """How many bits tell all kinds apart of any one depth up to this one."""
    most = most_kinds(words, depth)
    doublings = 0
    reach = 1
    while reach < most:
        reach *= 2
        doublings += 1
    return doublings


def useful(words):
    """The ascending states that lie on a way from the start to a state with tops."""
    return tuple([state for state, is_told in enumerate(are_useful(check_words_machine(words))) if is_told])


def loops(words):
    """The ascending lots of useful states in which each leads to each by letters."""
    checked = check_words_machine(words)
    nexts = next_states(checked)
    return tuple(sorted([lot for lot in lots_of(nexts, are_useful(checked)) if is_loop(nexts, lot)]))


def _rests(words):
    """(the depth from which on kinds come again, behind how many depths, the kinds up to then)."""
    kept = are_useful(words)
    ways = _first_ways(words, kept)
    depths = {}
    kinds = []
    told = tuple(sorted(ways.items()))
    while told not in depths:
        depths[told] = len(kinds)
        kinds.append(_kinds(words, ways))
        ways = _behind(words, ways, kept)
        told = tuple(sorted(ways.items()))
    return depths[told], len(kinds) - depths[told], tuple(kinds)


def _power(words):
    """How many loops stand one behind another at most on a way from the start; None where growth is that of depth."""
    if has_two_steps(words) is not None:
        return None
    start_rank = all_ranks(words)[words[1]]
    return 0 if start_rank is None else start_rank[0]


def growth(words):
    """How kinds grow with the depth: ("depth",), ("power", power) or ("bounded", most)."""
    checked = check_words_machine(words)
    many = _power(checked)
    if many is None:
        return ("depth",)
    if many > 1:
        return ("power", many - 1)
    return ("bounded", max(_rests(checked)[2]))


def bits(words):
    """How the bits that tell kinds apart grow with the depth."""
    many = _power(check_words_machine(words))
    if many is None:
        return "depth"
    return "logarithm" if many > 1 else "bounded"


def rests(words):
    """From which depth on kinds come again, behind how many depths, and the kinds up to then; None if unbounded."""
    checked = check_words_machine(words)
    many = _power(checked)
    if many is None or many > 1:
        return None
    return _rests(checked)


def at_rest(words, modulo, rest):
    """A words machine with the same kinds at depths that leave this rest by modulo, none at others."""
    _, start, steps, tops = check_words_machine(words)
    if not is_number(modulo) or not 1 <= modulo <= MODULO_MOST:
        raise Refused(modulo)
    if not is_number_below(rest, modulo):
        raise Refused(rest)
    states = [(start, 0)]
    numbers = {states[0]: 0}
    rows = []
    while len(rows) < len(states):
        state, turn = states[len(rows)]
        row = []
        for letter, behind in steps[state]:
            led = (behind, turn + 1 if turn + 1 < modulo else 0)
            if led not in numbers:
                numbers[led] = len(states)
                states.append(led)
            row.append((letter, numbers[led]))
        rows.append(tuple(row))
    new_tops = [tops[state] if turn == rest else () for state, turn in states]
    return len(states), 0, tuple(rows), tuple(new_tops)


def grows(words):
    """A paper that tells how fast kinds grow at least; None if there are none."""
    checked = check_words_machine(words)
    if not are_useful(checked)[checked[1]]:
        return None
    if has_two_steps(checked) is not None:
        return two_paper(checked)
    return row_paper(checked)


def grows_holds(words, value):
    """Whether any value is a paper that tells how fast kinds grow at least."""
    checked = check_words_machine(words)
    return is_two_paper(checked, value) or is_row_paper(checked, value)


def ranks(words):
    """By state (rank, place, letter), which tell that kinds grow no faster; None where growth is that of depth."""
    checked = check_words_machine(words)
    if has_two_steps(checked) is not None:
        return None
    return tuple(all_ranks(checked))


def ranks_hold(words, value):
    """Whether any value tells by state ranks that kinds do not grow faster than."""
    return are_ranks_of(check_words_machine(words), value)
