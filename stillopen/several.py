"""Machines that answer several questions at once: what each of them costs, and when it is sure."""

from stillopen.counts import counts_to, stack_machine
from stillopen.ends import Ends
from stillopen.errors import Refused
from stillopen.growth import counted
from stillopen.leastmachines import least_machine
from stillopen.leaststacks import least
from stillopen.machines import check_machine, chosen, come_to
from stillopen.reach import numbered
from stillopen.stacks import stack_in
from stillopen.streams import check_prefix
from stillopen.words import is_number, is_number_below


def _places(machine):
    """The places of the words of a machine's answers."""
    return list(range(len(machine[2][4][0])))


def _check_place(machine, value):
    """Refused for any value that is no place of a word of the answers of a machine that was checked."""
    if not is_number_below(value, len(machine[2][4][0])):
        raise Refused(value)


def part(machine, place):
    """The machine that answers with the word at a place alone."""
    checked = check_machine(machine)
    _check_place(checked, place)
    return chosen(checked, (place,))


def without(machine, place):
    """The machine that answers with all words but the one at a place."""
    checked = check_machine(machine)
    _check_place(checked, place)
    others = [other for other in _places(checked) if other != place]
    if len(others) == 0:
        raise Refused(place)
    return chosen(checked, others)


def kinds_by(machine, stack):
    """By place the least stack that is like this one for that word."""
    checked = check_machine(machine)
    states = stack_in(checked, stack)
    inner, top = come_to(checked)
    if states[0] not in top or not all([state in inner for state in states[1:]]):
        raise Refused(stack)
    return tuple([least(part(checked, place), states) for place in _places(checked)])


def counts_by(machine, depth, *, most):
    """(by depth up to this one how many kinds there are for all words; by place the same for this word)."""
    checked = check_machine(machine)
    if not is_number(depth):
        raise Refused(depth)
    rows = [counts_to(least_machine(part(checked, place)), depth, most=most) for place in _places(checked)]
    return counts_to(least_machine(checked), depth, most=most), tuple(rows)


def _many_lots(words):
    """How many lots of states a words machine has, those of one lot having as many kinds of each depth behind them."""
    lots = numbered([len(row) for row in words[3]])
    many = 0
    while many < max(lots) + 1:
        many = max(lots) + 1
        sights = [sorted([lots[behind] for _, behind in row]) for row in words[2]]
        lots = numbered([(lot, tuple(sight)) for lot, sight in zip(lots, sights)])
    return many


def _first_unlike(words, others):
    """The first depth at which the kinds of a words machine are not the product of those of others, None if at none.

    Both are sums of parts of powers of a matrix, by lots; if they are alike at as many depths as this has rows, they
    are alike for ever.
    """
    rows_many = 1
    for other in others:
        rows_many = rows_many * _many_lots(other)
    rows_many += _many_lots(words)
    begun = 0
    depth = 1
    while begun < rows_many:
        last = min(depth, rows_many) - 1
        kinds = counted(words, last)
        rows = [counted(other, last) for other in others]
        for at in range(begun, last + 1):
            product = 1
            for row in rows:
                product = product * row[at]
            if kinds[at] != product:
                return at
        begun = last + 1
        depth = depth * 4
    return None


def first_less(machine, *, most):
    """The first depth of fewer kinds for all words than the product of those of each, None if there is none."""
    checked = check_machine(machine)
    words = stack_machine(least_machine(checked), most=most)
    others = [stack_machine(least_machine(part(checked, place)), most=most) for place in _places(checked)]
    return _first_unlike(words, others)


def is_needless(machine, place, *, most):
    """Whether at every depth there are just as many kinds without the word at a place."""
    checked = check_machine(machine)
    rest = without(checked, place)
    words = stack_machine(least_machine(checked), most=most)
    return _first_unlike(words, [stack_machine(least_machine(rest), most=most)]) is None


def _sure_words(answers):
    """By place the word that all of these answers have, None if some are unlike."""
    told = []
    for place in range(len(answers[0])):
        words = [answer[place] for answer in answers]
        told.append(words[0] if words.count(words[0]) == len(words) else None)
    return tuple(told)


def sure_parts(machine, stack):
    """By place the word that all endings give it, None if some are unlike."""
    checked = check_machine(machine)
    return _sure_words(Ends(checked).answers(stack_in(checked, stack)))


def earliest_parts(machine, prefix):
    """By place (how many signs are read, the word) when it is sure first, None if it is open behind all of them."""
    checked = check_machine(machine)
    signs = check_prefix(prefix)
    rows = [_sure_words(answers) for answers in Ends(checked).answers_along(signs)]
    told = []
    for place in _places(checked):
        known = [many for many, row in enumerate(rows) if row[place] is not None]
        told.append((known[0], rows[known[0]][place]) if len(known) > 0 else None)
    return tuple(told)
