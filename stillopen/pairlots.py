"""Lots of pairs of states in which the rows of two stacks can stand behind like endings, level by level."""

from stillopen.rowmaps import RowMaps, spread


def _spread(pairs, maps):
    """Ascending all pairs to which maps, one behind another, lead these pairs."""
    return tuple(sorted(spread(pairs, lambda pair: [(row[pair[0]], row[pair[1]]) for row in maps])))


class PairLots(RowMaps):
    """The lots of a machine that was checked, inner ones by numbers; what was told once is kept.

    A lot is an ascending tuple of pairs. None is what is within the innermost level: nothing.
    """

    def __init__(self, machine):
        RowMaps.__init__(self, machine)
        self.pairs = []
        self.numbers = {}
        self.led = {}
        self.likenesses = {}

    def inner_lot(self, within, state, other):
        """The number of the lot of two inner rows in these states, behind all that is within and any forest."""
        told = (within, state, other)
        if told not in self.led:
            lot = _spread(self._closed(within, state, other, self.machine[3][3]), self.inner_maps)
            if lot not in self.numbers:
                self.numbers[lot] = len(self.pairs)
                self.pairs.append(lot)
            self.led[told] = self.numbers[lot]
        return self.led[told]

    def top_lot(self, within, state, other):
        """The lot of two top rows in these states, likewise."""
        return _spread(self._closed(within, state, other, self.machine[2][3]), self.top_maps)

    def are_alike(self, within, state, other):
        """Whether no pair of the top lot answers unlike."""
        told = (within, state, other)
        if told not in self.likenesses:
            answers = self.machine[2][4]
            pairs = self.top_lot(within, state, other)
            self.likenesses[told] = all([answers[one] == answers[two] for one, two in pairs])
        return self.likenesses[told]

    def _closed(self, within, state, other, children):
        """The pairs behind what ends in the pairs within, or that of both states where nothing is within."""
        if within is None:
            return [(state, other)]
        return [(children[one][state], children[two][other]) for one, two in self.pairs[within]]
