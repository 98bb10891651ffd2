"""A world: a stream that is being read, sign by sign or in pieces, and edited, and what is told of it."""

from stillopen.errors import BadStream, Refused
from stillopen.keeper import Keeper
from stillopen.picture import Telling, machine_for
from stillopen.pieces import act, piece_of
from stillopen.streams import check_prefix
from stillopen.words import is_number, is_sequence


class World:
    """Reads a stream for a question; first is when an answer was seen to be sure first, and this answer."""

    def __init__(self, question, asked):
        self.machine = machine_for(question, asked)
        self.telling = Telling(self.machine)
        self.signs = ()
        self.keeper = Keeper(self.machine)
        self.first = None
        self._look()

    def _look(self):
        """Looks whether an answer is sure, if none was seen to be so."""
        if self.first is None:
            answer = self.telling.lots_of.sure(self.keeper.stack)
            if answer is not None:
                self.first = (len(self.signs), answer)

    def tells(self):
        """What is told behind all that was read."""
        return self.telling.tells(self.keeper.stack)

    def read(self, sign):
        """Reads a sign; what is told then."""
        self._read_one(sign)
        return self.tells()

    def _read_one(self, sign):
        """Reads a sign, and looks."""
        self.keeper.read(sign)
        self.signs = self.signs + (tuple(sign),)
        self._look()

    def read_piece(self, signs):
        """Reads signs all at once; what is told then."""
        if not is_sequence(signs):
            raise Refused(signs)
        told = check_prefix(self.signs + tuple(signs))
        self.keeper.go_to(act(self.machine, self.keeper.stack, piece_of(self.machine, signs)))
        self.signs = told
        self._look()
        return self.tells()

    def ends(self):
        """The answer if the stream ends here."""
        if self.keeper.depth() > 0:
            raise BadStream(len(self.signs))
        return self.keeper.word()

    def edit(self, first, behind, signs):
        """Puts signs in the place of those from a place up to ahead of another one; what is told then."""
        if not is_number(first) or first > len(self.signs):
            raise Refused(first)
        if not is_number(behind) or not first <= behind <= len(self.signs):
            raise Refused(behind)
        if not is_sequence(signs):
            raise Refused(signs)
        told = check_prefix(self.signs[:first] + tuple(signs) + self.signs[behind:])
        self.keeper.go_to((self.machine[2][1],))
        self.signs = ()
        self.first = None
        self._look()
        for sign in told:
            self._read_one(sign)
        return self.tells()
