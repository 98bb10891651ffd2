"""What is sure: when all endings give one answer, and of which answers."""

from stillopen.counts import count
from stillopen.documents import signs_of
from stillopen.ends import Ends, only_one
from stillopen.errors import Refused
from stillopen.leastrows import least_elements, least_led, least_told, sign_steps
from stillopen.machineforms import is_answer
from stillopen.machines import check_machine
from stillopen.stacks import stack_in
from stillopen.streams import check_prefix
from stillopen.words import is_number


def answers_of(machine, stack):
    """Ascending the answers that endings give a stack."""
    checked = check_machine(machine)
    return Ends(checked).answers(stack_in(checked, stack))


def sure(machine, stack):
    """The answer that all endings give a stack, None if some are unlike."""
    checked = check_machine(machine)
    return Ends(checked).sure(stack_in(checked, stack))


def sure_by(machine, prefix):
    """By how many signs of a prefix are read, from none on, the answer that is sure then, or None."""
    checked = check_machine(machine)
    signs = check_prefix(prefix)
    return tuple([only_one(answers) for answers in Ends(checked).answers_along(signs)])


def earliest(machine, prefix):
    """(how many signs are read, the answer) when it is sure first, None if it is open behind all of them."""
    for many, answer in enumerate(sure_by(machine, prefix)):
        if answer is not None:
            return many, answer
    return None


def _sure_at_all(machine):
    """Ascending the answers of which some stack is sure that a prefix leads to, whatever its depth."""
    # What is sure stays so behind openings, and behind closings: so stacks of all depths are sure of the same answers.
    ends = Ends(machine)
    told = [ends.sure((state,)) for state in ends.top_states]
    return tuple(sorted(set([answer for answer in told if answer is not None])))


def sure_answers(machine, depth):
    """Ascending the answers of which some stack of a depth, that a prefix leads to, is sure."""
    checked = check_machine(machine)
    if not is_number(depth):
        raise Refused(depth)
    return _sure_at_all(checked)


def sure_table(machine):
    """(ahead, again): by depth what sure_answers tells, first ahead, then again and again."""
    return (), (_sure_at_all(check_machine(machine)),)


def open_count(machine, depth, *, most):
    """How many kinds of stacks of a depth are open."""
    checked = check_machine(machine)
    return count(checked, depth, most=most) - len(_sure_at_all(checked))


def answer_in(machine, value):
    """The answer of a machine that was checked as a tuple; Refused for any value that is none."""
    if not is_answer(value, len(machine[2][4][0])):
        raise Refused(value)
    return tuple(value)


def _least_inward(ends):
    """By lot of the outermost inner level the least (how many signs, openings and rows) that lead to it."""
    begun = []
    for state, (cost, element) in least_elements(ends.machine).items():
        begun.append((state, cost - 1, signs_of((element,))[:-1]))

    def going_on(lot, done):
        """The offers of lots of one level more, outwards."""
        many, signs = done[lot]
        return [(many + more, ends.inner_lot(lot, outer), ahead + signs) for outer, more, ahead in begun]

    return least_told([(more, ends.inner_lot(None, inner), row) for inner, more, row in begun], going_on)


def shortest_sure(machine, answer):
    """Some prefix of fewest signs that is sure of an answer, None if none is."""
    checked = check_machine(machine)
    told = answer_in(checked, answer)
    ends = Ends(checked)
    _, start, texts, children, _ = checked[2]
    tops = least_led([(0, (start,), ())], sign_steps(checked, texts, children))
    offers = [(0, None, ())]
    for lot, (cost, signs) in _least_inward(ends).items():
        offers.append((cost, lot, signs))
    found = []
    for (state,), (more, ahead) in tops.items():
        for cost, lot, signs in offers:
            if ends.answers_of(ends.top_lot(lot, state)) == (told,):
                found.append((cost + more, ahead + signs))
    return min(found)[1] if len(found) > 0 else None
