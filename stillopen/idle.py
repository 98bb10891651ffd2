"""Idle levels: those of which no ending asks how they go on."""

from stillopen.ends import Ends
from stillopen.pairlots import PairLots


class Idle:
    """The idle levels of the stacks of a machine that was checked; what was told once is kept."""

    def __init__(self, machine):
        self.machine = machine
        self.lots_of = Ends(machine)
        self.beside = PairLots(machine)

    def _are_alike(self, around, state, other):
        """Whether two stacks are alike that have the same states around, and these ones innermost."""
        if len(around) == 0:
            return self.beside.are_alike(None, state, other)
        within = self.beside.inner_lot(None, state, other)
        for same in reversed(around[1:]):
            within = self.beside.inner_lot(within, same, same)
        return self.beside.are_alike(within, around[0], around[0])

    def _is_idle(self, stack, level, lot):
        """Whether a level of a stack is idle that can end in the states of a lot."""
        children = self.machine[3][3] if level > 1 else self.machine[2][3]
        state = stack[level - 1]
        behind = sorted(set([children[child][state] for child in lot]))
        around = stack[:level - 1]
        return all([self._are_alike(around, behind[0], other) for other in behind[1:]])

    def is_idle(self, stack, level):
        """Whether a level of a stack is idle."""
        lots = self.lots_of.lots_by_level(stack)
        return self._is_idle(stack, level, lots[len(stack) - 1 - level])

    def outermost(self, stack):
        """The outermost idle level of a stack, None if none is."""
        lots = self.lots_of.lots_by_level(stack)
        for level in range(1, len(stack)):
            if self._is_idle(stack, level, lots[len(stack) - 1 - level]):
                return level
        return None
