"""The kinds of stacks, level by level: which there are, and which kind stands behind each sign."""

from stillopen.machines import come_to
from stillopen.reach import numbered
from stillopen.rowmaps import spread


def _parted(outputs, behind):
    """By node the number of its lot: in one lot are those that put out the same, whatever leads them all on.

    behind tells by node the nodes to which it is led. Lots are numbered by the first node of each.
    """
    lots = numbered(outputs)
    many = 0
    while many < max(lots) + 1:
        many = max(lots) + 1
        lots = numbered([(lot,) + tuple([lots[led] for led in row]) for lot, row in zip(lots, behind)])
    return lots


class KindLevels:
    """The kinds of the stacks of each depth of a machine that was checked, numbered ascending by their least stacks.

    A least stack is one also without its innermost level. So of each level there are kept, by kind, the kind around
    and the innermost state of its least stack; and by kind around and innermost state, the kind.
    """

    def __init__(self, machine):
        inner, top = come_to(machine)
        self.machine = machine
        self.inner_states = tuple(sorted(inner))
        self.rows = []
        self.numbers = []
        tops = machine[2]
        nodes = [(0, state) for state in sorted(top)]
        self._add(nodes, tops, [tops[4][state] for _, state in nodes])

    def _add(self, nodes, part, outputs):
        """Adds a level of these nodes (kind around, state), parted by what they put out, led on by maps of a part."""
        places = {node: place for place, node in enumerate(nodes)}
        maps = part[2] + tuple([part[3][child] for child in self.inner_states])
        behind = [[places[(around, row[state])] for row in maps] for around, state in nodes]
        lots = _parted(outputs, behind)
        rows = []
        for node, lot in zip(nodes, lots):
            if lot == len(rows):
                rows.append(node)
        self.rows.append(rows)
        self.numbers.append({node: lot for node, lot in zip(nodes, lots)})

    def add_level(self):
        """Adds the level within the innermost one that there is."""
        depth = len(self.rows) - 1
        nodes = [(kind, state) for kind in range(len(self.rows[depth])) for state in self.inner_states]
        self._add(nodes, self.machine[3], [self.behind_element(depth, kind, state) for kind, state in nodes])

    def many(self, depth):
        """How many kinds there are of a depth."""
        return len(self.rows[depth])

    def start_kind(self):
        """The kind of what is behind no sign."""
        return self.numbers[0][(0, self.machine[2][1])]

    def _part(self, depth):
        """The part of the machine that reads the innermost level of stacks of a depth."""
        return self.machine[3] if depth > 0 else self.machine[2]

    def behind_text(self, depth, kind, text_kind):
        """The kind behind a kind of a depth and a text."""
        around, state = self.rows[depth][kind]
        return self.numbers[depth][(around, self._part(depth)[2][text_kind][state])]

    def behind_element(self, depth, kind, child):
        """The kind behind a kind of a depth and an element that ends in an inner state."""
        around, state = self.rows[depth][kind]
        return self.numbers[depth][(around, self._part(depth)[3][child][state])]

    def behind_opening(self, depth, kind, label_kind):
        """The kind, of one depth more, behind a kind of a depth and an opening."""
        return self.numbers[depth + 1][(kind, self.machine[3][1][label_kind])]

    def behind_closing(self, depth, kind):
        """The kind, of one depth less, behind a kind of a depth and a closing."""
        around, state = self.rows[depth][kind]
        return self.behind_element(depth - 1, around, state)

    def least_stack(self, depth, kind):
        """The least stack of a kind of a depth."""
        states = []
        for level in reversed(range(depth + 1)):
            kind, state = self.rows[level][kind]
            states.append(state)
        return tuple(reversed(states))

    def pairs_beside(self, depth, firsts, strings, by_element):
        """All pairs of (state of a reader, kind of a depth) to which rows lead these.

        strings tells by kind of text a map of the states; by_element by state the (state behind an element, inner state
        in which this ends) that there are.
        """

        def behind(pair):
            """The pairs right behind a pair."""
            state, kind = pair
            news = [(row[state], self.behind_text(depth, kind, at)) for at, row in enumerate(strings)]
            news.extend([(there, self.behind_element(depth, kind, child)) for there, child in by_element[state]])
            return news

        return spread(firsts, behind)
