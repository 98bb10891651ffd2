"""Pieces of rows of signs: what they do, put together, and of rows that are edited."""

from stillopen.errors import Refused
from stillopen.forms import check_sign, is_sign
from stillopen.machines import check_machine
from stillopen.pieceforms import is_piece, led_by, nothing, of_sign, piece_as_tuples, put_together
from stillopen.piecetrees import PieceTrees
from stillopen.stacks import stack_in
from stillopen.words import is_number, is_sequence


def _signs_in(value):
    """The signs as tuples; Refused for any value that is no sequence of signs."""
    if not is_sequence(value) or not all([is_sign(sign) for sign in value]):
        raise Refused(value)
    return tuple([tuple(sign) for sign in value])


def _piece_in(machine, value):
    """The piece as tuples; Refused for any value that has no form of one."""
    if not is_piece(machine, value):
        raise Refused(value)
    return piece_as_tuples(value)


def no_piece(machine):
    """The piece of no signs."""
    return nothing(check_machine(machine))


def check_piece(machine, value):
    """A value of the form of a piece, as tuples; Refused for any other one."""
    return _piece_in(check_machine(machine), value)


def sign_piece(machine, sign):
    """The piece of one sign."""
    checked = check_machine(machine)
    return of_sign(checked, check_sign(sign))


def joined(machine, one, other):
    """The piece of the signs of one, and behind them those of the other."""
    checked = check_machine(machine)
    ahead = _piece_in(checked, one)
    return put_together(checked, ahead, _piece_in(checked, other))


def piece_of(machine, signs):
    """The piece of signs."""
    checked = check_machine(machine)
    piece = nothing(checked)
    for sign in _signs_in(signs):
        piece = put_together(checked, piece, of_sign(checked, sign))
    return piece


def act(machine, stack, piece):
    """The stack behind the signs of a piece."""
    checked = check_machine(machine)
    states = stack_in(checked, stack)
    told = _piece_in(checked, piece)
    if len(told[0]) > len(states):
        raise Refused(piece)
    return led_by(checked, states, told)


class Edited:
    """A row of signs that is edited; made is how often two pieces were put together for it."""

    def __init__(self, machine, signs):
        self.machine = check_machine(machine)
        self.signs = _signs_in(signs)
        self.trees = PieceTrees(self.machine)
        self.tree = self.trees.of_signs(self.signs)
        self.made = self.trees.made

    def many(self):
        """How many signs there are."""
        return len(self.signs)

    def all_signs(self):
        """The signs."""
        return self.signs

    def whole(self):
        """The piece of all signs."""
        return self.trees.piece(self.tree)

    def _check_places(self, first, behind):
        """Refused for what are no places, one not ahead of the other."""
        if not is_number(first) or first > len(self.signs):
            raise Refused(first)
        if not is_number(behind) or not first <= behind <= len(self.signs):
            raise Refused(behind)

    def part(self, first, behind):
        """The piece of the signs from a place up to ahead of another one."""
        self._check_places(first, behind)
        piece = self.trees.part(self.tree, first, behind)
        self.made = self.trees.made
        return piece

    def edit(self, first, behind, signs):
        """Puts signs in the place of those from a place up to ahead of another one."""
        self._check_places(first, behind)
        news = _signs_in(signs)
        ahead, rest = self.trees.cut(self.tree, first)
        _, rest = self.trees.cut(rest, behind - first)
        ahead = self.trees.joined(ahead, self.trees.of_signs(news))
        self.tree = self.trees.joined(ahead, rest)
        self.signs = self.signs[:first] + news + self.signs[behind:]
        self.made = self.trees.made

    def answer(self):
        """The machine's answer to the document whose stream these signs are."""
        closes, opens = self.whole()
        if len(closes) > 1 or len(opens) > 0:
            raise Refused(self.signs)
        _, start, _, _, answers = self.machine[2]
        return answers[closes[0][1][start]]
