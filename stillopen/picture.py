"""A question's machine, and all that is told at once: of what is behind a prefix, and of what has to be kept."""

from stillopen.compiled import compiled_all
from stillopen.counts import stack_machine
from stillopen.ends import Ends
from stillopen.errors import Refused
from stillopen.growth import bits, counted, growth
from stillopen.leastmachines import least_machine
from stillopen.leaststacks import kind
from stillopen.machines import check_machine
from stillopen.sure import sure_answers
from stillopen.ways import Ways
from stillopen.words import is_number


def machine_for(question, asked):
    """The least machine that answers the facts that are asked."""
    return least_machine(compiled_all(question, asked))


class Telling:
    """Tells of the stacks of a machine that was checked whether they are sure; what was told once is kept."""

    def __init__(self, machine):
        self.lots_of = Ends(machine)
        self.ways = Ways(machine)

    def tells(self, stack):
        """What is told of a stack: that it is sure, and of what, or open, and by answer an ending of fewest signs."""
        answer = self.lots_of.sure(stack)
        if answer is not None:
            return "sure", answer
        return ("open",) + tuple(sorted(list(self.ways.endings(stack).items())))


def picture(machine, prefix):
    """(how many levels are open, the least stack, ..): then what is told behind a prefix."""
    checked = check_machine(machine)
    stack = kind(checked, prefix)
    return (len(stack) - 1, stack) + Telling(checked).tells(stack)


def memory(machine, depth, *, most):
    """(by depth up to this one how many kinds there are, how many of them are sure, growth, bits)."""
    checked = check_machine(machine)
    if not is_number(depth):
        raise Refused(depth)
    words = stack_machine(checked, most=most)
    sures = tuple([len(sure_answers(checked, level)) for level in range(depth + 1)])
    return counted(words, depth), sures, growth(words), bits(words)
