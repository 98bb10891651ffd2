"""The rows of a machine: what texts and elements do in them, and all to which these lead."""

from stillopen.machines import come_to


def spread(firsts, behind):
    """All things to which the first ones lead, in some order; behind tells of a thing those right behind it."""
    todo = list(firsts)
    found = {}
    while todo:
        thing = todo.pop()
        if thing not in found:
            found[thing] = True
            todo.extend(behind(thing))
    return list(found)


class RowMaps:
    """The states that rows of a machine that was checked come to, and the maps of its texts and elements."""

    def __init__(self, machine):
        inner, top = come_to(machine)
        _, _, tops, inners = machine
        self.machine = machine
        self.inner_states = tuple(sorted(inner))
        self.top_states = tuple(sorted(top))
        self.inner_maps = inners[2] + tuple([inners[3][child] for child in inner])
        self.top_maps = tops[2] + tuple([tops[3][child] for child in inner])
