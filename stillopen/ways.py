"""Ways of fewest signs: how the levels of stacks go on to the states in which they can end."""

from stillopen.leastrows import least_led, sign_steps


class Ways:
    """The least signs that lead stacks of a machine that was checked on."""

    def __init__(self, machine):
        _, _, tops, inners = machine
        self.machine = machine
        self.inner_steps = sign_steps(machine, inners[2], inners[3])
        self.top_steps = sign_steps(machine, tops[2], tops[3])

    def by_level(self, stacks):
        """By level of stacks of one depth, from the innermost out, how they all can end there.

        That is by states, one of each stack, the least (how many signs, such signs), the fewest first.
        """
        levels = [tuple([stack[level] for stack in stacks]) for level in range(len(stacks[0]))]
        offers = [(0, levels[-1], ())]
        told = []
        for level in reversed(range(1, len(levels))):
            led = least_led(offers, self.inner_steps)
            told.append(led)
            offers = self._closed(led, level, levels[level - 1])
        told.append(least_led(offers, self.top_steps))
        return told

    def _closed(self, led, level, around):
        """The offers of the rows around in these states, behind the closing of a level that is led so."""
        children = self.machine[3][3] if level > 1 else self.machine[2][3]
        offers = []
        for ends, (cost, signs) in led.items():
            states = tuple([children[child][state] for child, state in zip(ends, around)])
            offers.append((cost + 1, states, signs + (("close",),)))
        return offers

    def endings(self, stack):
        """By answer some ending of fewest signs that gives it to a stack."""
        told = {}
        for (state,), (_, signs) in self.by_level([stack])[-1].items():
            told.setdefault(self.machine[2][4][state], signs)
        return told
