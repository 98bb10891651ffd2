"""The rows that a ladder and a machine read side by side, level by level, and elements of fewest signs."""

from stillopen.leastrows import least_told
from stillopen.machines import label_beside, text_beside


class LadderRows:
    """What a ladder and a machine, both checked, of the same names, do beside one another.

    by_element tells by level, by state of the ladder, by (state behind it, inner state of the machine in which it ends)
    (how many signs, the signs) of some element of fewest signs that the ladder reads there.
    """

    def __init__(self, machine, ladder):
        self.machine = machine
        self.levels = ladder[3]
        self.names = machine[0] + (label_beside(machine[0]),)
        self.words = machine[1] + (text_beside(machine[1]),)
        told = [[{} for _ in range(self.levels[-1][0])]]
        for depth in reversed(range(len(self.levels) - 1)):
            rows = self._rows_within(depth, told[-1])
            told.append([self._element_steps(depth, state, rows) for state in range(self.levels[depth][0])])
        self.by_element = tuple(reversed(told))

    def _steps(self, depth, by_element, part, state, other):
        """The least (how many signs, pair behind them, signs) of one node behind a pair of states of a level."""
        led = {}
        for kind, row in enumerate(self.levels[depth][1]):
            led.setdefault((row[state], part[2][kind][other]), (1, (("text", self.words[kind]),)))
        for (behind, child), told in by_element[state].items():
            there = (behind, part[3][child][other])
            if there not in led or told[0] < led[there][0]:
                led[there] = told
        return [(cost, behind, signs) for behind, (cost, signs) in led.items()]

    def _all_steps(self, depth, by_element, part):
        """By pair of states of a level, by its elements, what is told of the steps behind it."""
        pairs = [(state, other) for state in range(self.levels[depth][0]) for other in range(part[0])]
        return {pair: self._steps(depth, by_element, part, pair[0], pair[1]) for pair in pairs}

    def _rows_within(self, depth, by_element):
        """By pair of states, in which rows begin in the level within, where they lead, by elements of that level."""
        rows = {}
        steps = self._all_steps(depth + 1, by_element, self.machine[3])
        for kind, row in enumerate(self.levels[depth][2]):
            for state in row:
                first = (state, self.machine[3][1][kind])
                if first not in rows:
                    rows[first] = _led(first, steps)
        return rows

    def _element_steps(self, depth, state, rows):
        """What is told of elements that begin in a state of a level."""
        close = self.levels[depth + 1][3]
        found = {}
        for kind, row in enumerate(self.levels[depth][2]):
            opening = (("open", self.names[kind]),)
            for (last, child), (cost, signs) in rows[(row[state], self.machine[3][1][kind])].items():
                behind = (close[last], child)
                if behind not in found or cost + 2 < found[behind][0]:
                    found[behind] = (cost + 2, opening + signs + (("close",),))
        return found

    def least_streams(self, first):
        """By pair of a state and of a top state the least (how many signs, stream) that leads there, fewest first."""
        return _led(first, self._all_steps(0, self.by_element[0], self.machine[2]))


def _led(first, steps):
    """By pair of states the least (how many signs, the signs) that lead there from the first one, by all steps."""

    def going_on(pair, done):
        """The offers of pairs that one node more leads to."""
        cost, told = done[pair]
        return [(cost + more, behind, told + signs) for more, behind, signs in steps[pair]]

    return least_told([(0, first, ())], going_on)
