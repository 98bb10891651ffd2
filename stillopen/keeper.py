"""A keeper: reads signs, and keeps of them no more than any right reader has to."""

from stillopen.errors import BadSign, Refused
from stillopen.forms import check_sign
from stillopen.leaststacks import least_beside
from stillopen.machines import check_machine
from stillopen.pairlots import PairLots
from stillopen.stacks import behind_sign, can_read
from stillopen.words import is_sequence


class Keeper:
    """Has, behind each prefix, the least stack of its kind."""

    def __init__(self, machine):
        self.machine = check_machine(machine)
        self.beside = PairLots(self.machine)
        self.stack = least_beside(self.beside, (self.machine[2][1],))

    def depth(self):
        """How many levels are open."""
        return len(self.stack) - 1

    def read(self, sign):
        """Reads a sign; the stack behind it."""
        self.stack = self._behind(self.stack, sign)
        return self.stack

    def read_all(self, signs):
        """Reads signs, all or none; the stack behind them."""
        if not is_sequence(signs):
            raise Refused(signs)
        stack = self.stack
        for sign in signs:
            stack = self._behind(stack, sign)
        self.stack = stack
        return stack

    def go_to(self, stack):
        """Has read what leads to a stack of states that are come to."""
        self.stack = least_beside(self.beside, stack)

    def _behind(self, stack, sign):
        """The least stack behind a least stack and a sign; nothing is read."""
        told = check_sign(sign)
        if not can_read(stack, told):
            raise BadSign(0)
        return least_beside(self.beside, behind_sign(self.machine, stack, told))

    def word(self):
        """The answer if the document ended here, None while a level is open."""
        if len(self.stack) > 1:
            return None
        return self.machine[2][4][self.stack[0]]

    def twin(self):
        """Another keeper that has read the same."""
        other = Keeper(self.machine)
        other.stack = self.stack
        return other
