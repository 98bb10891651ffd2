"""Of which answers stacks are sure, depth by depth."""


def _next_lots(ends, lots):
    """Ascending the lots of one level more, outwards."""
    return tuple(sorted(set([ends.inner_lot(within, state) for within in lots for state in ends.inner_states])))


def _sure_in(ends, lots):
    """Ascending the answers of which some stack with one of these lots within its top row is sure."""
    told = [ends.answers_of(ends.top_lot(within, state)) for within in lots for state in ends.top_states]
    return tuple(sorted(set([answers[0] for answers in told if len(answers) == 1])))


def by_depth(ends):
    """(by depth the answers of which some stack is sure, the depth from which on they are told again and again)."""
    lots = (None,)
    depths = {}
    rows = []
    while lots not in depths:
        depths[lots] = len(rows)
        rows.append(_sure_in(ends, lots))
        lots = _next_lots(ends, lots)
    return rows, depths[lots]


def at_depth(ends, depth):
    """Ascending the answers of which some stack of a depth is sure."""
    rows, first = by_depth(ends)
    if depth < first:
        return rows[depth]
    return rows[first + (depth - first) % (len(rows) - first)]


def shortest_table(rows, first):
    """(the rows told ahead, those told behind again and again), as short as can be."""
    ahead = rows[:first]
    again = rows[first:]
    period = 1
    while again[period:] + again[:period] != again:
        period += 1
    again = again[:period]
    while len(ahead) > 0 and ahead[-1] == again[-1]:
        again = [ahead.pop()] + again[:-1]
    return tuple(ahead), tuple(again)
