"""In which states the levels of stacks can end: what can come of stacks, whatever their endings."""

from stillopen.rowmaps import RowMaps, spread
from stillopen.stacks import behind_sign


def _spread(states, maps):
    """Ascending all states to which maps, one behind another, lead these states."""
    return tuple(sorted(spread(states, lambda state: [row[state] for row in maps])))


class Ends(RowMaps):
    """The lots of states in which levels of a machine that was checked can end; what was told once is kept.

    A lot is an ascending tuple of states. None is what is within the innermost level: nothing.
    """

    def __init__(self, machine):
        RowMaps.__init__(self, machine)
        self.inner_told = {}
        self.top_told = {}

    def inner_lot(self, within, state):
        """The lot of an inner row in a state, behind a level within that ends in some state of its lot."""
        told = (within, state)
        if told not in self.inner_told:
            self.inner_told[told] = _spread(_closed(within, state, self.machine[3][3]), self.inner_maps)
        return self.inner_told[told]

    def top_lot(self, within, state):
        """The lot of the top row, likewise."""
        told = (within, state)
        if told not in self.top_told:
            self.top_told[told] = _spread(_closed(within, state, self.machine[2][3]), self.top_maps)
        return self.top_told[told]

    def lots_by_level(self, stack):
        """By level of a stack, from the innermost out, its lot."""
        lots = []
        within = None
        for state in reversed(stack[1:]):
            within = self.inner_lot(within, state)
            lots.append(within)
        lots.append(self.top_lot(within, stack[0]))
        return tuple(lots)

    def answers_of(self, lot):
        """Ascending the answers of a lot of the top row."""
        return tuple(sorted(set([self.machine[2][4][state] for state in lot])))

    def answers(self, stack):
        """Ascending the answers that endings give a stack."""
        return self.answers_of(self.lots_by_level(stack)[-1])

    def sure(self, stack):
        """The answer that all endings give a stack, None if some are unlike."""
        return only_one(self.answers(stack))

    def answers_along(self, signs):
        """By how many signs of a prefix are read, from none on, the answers that endings give."""
        stack = (self.machine[2][1],)
        told = [self.answers(stack)]
        for sign in signs:
            stack = behind_sign(self.machine, stack, sign)
            told.append(self.answers(stack))
        return told


def only_one(things):
    """The one that there is, None if there are more."""
    return things[0] if len(things) == 1 else None


def _closed(within, state, children):
    """The states behind a level within that ends in its lot, or this state alone where nothing is within."""
    if within is None:
        return [state]
    return [children[child][state] for child in within]
