"""Words machines as graphs: which states lead to which, and the loops in which each leads to each."""


def next_states(words):
    """By state the ascending states to which its steps lead."""
    return [sorted(set([behind for _, behind in row])) for row in words[2]]


def _turned_round(nexts):
    """By state the states whose steps lead to it."""
    ahead = [[] for _ in nexts]
    for state, row in enumerate(nexts):
        for behind in row:
            ahead[behind].append(state)
    return ahead


def led_to(nexts, firsts):
    """By state whether some of the first ones leads there, by steps, none or more."""
    told = [False] * len(nexts)
    todo = list(firsts)
    for first in firsts:
        told[first] = True
    while todo:
        state = todo.pop()
        for behind in nexts[state]:
            if not told[behind]:
                told[behind] = True
                todo.append(behind)
    return told


def are_useful(words):
    """By state whether it lies on a way from the start to a state with tops."""
    _, start, _, tops = words
    nexts = next_states(words)
    behind_start = led_to(nexts, [start])
    ahead_of_tops = led_to(_turned_round(nexts), [state for state, row in enumerate(tops) if len(row) > 0])
    return [one and other for one, other in zip(behind_start, ahead_of_tops)]


def _finished(nexts, kept):
    """The kept states, each as soon as all are told to which it leads and that were not begun ahead of it."""
    begun = [not one for one in kept]
    order = []
    for first in range(len(nexts)):
        todo = [] if begun[first] else [[first, 0]]
        begun[first] = True
        while todo:
            state, at = todo[-1]
            if at == len(nexts[state]):
                order.append(state)
                todo.pop()
                continue
            todo[-1][1] += 1
            behind = nexts[state][at]
            if not begun[behind]:
                begun[behind] = True
                todo.append([behind, 0])
    return order


def lots_of(nexts, kept):
    """The lots of kept states, as great as can be, in which each leads to each; none leads to one ahead of it."""
    ahead = _turned_round(nexts)
    taken = [not one for one in kept]
    lots = []
    for first in reversed(_finished(nexts, kept)):
        if taken[first]:
            continue
        taken[first] = True
        lot = [first]
        todo = [first]
        while todo:
            last = todo.pop()
            news = [state for state in ahead[last] if not taken[state]]
            for state in news:
                taken[state] = True
            lot.extend(news)
            todo.extend(news)
        lots.append(tuple(sorted(lot)))
    return lots


def is_loop(nexts, lot):
    """Whether in a lot each leads to each by one step or more."""
    return len(lot) > 1 or lot[0] in nexts[lot[0]]


def lot_numbers(nexts, kept):
    """By state the number of its lot, None of those that are not kept; states of one lot have one number."""
    told = [None] * len(nexts)
    for number, lot in enumerate(lots_of(nexts, kept)):
        for state in lot:
            told[state] = number
    return told


def shortest_way(words, first, goals):
    """(the letters of a shortest way from a state to one of the goals, this one); None if there is none."""
    steps = words[2]
    ways = {first: ()}
    todo = [first]
    at = 0
    while at < len(todo):
        state = todo[at]
        at += 1
        if goals[state]:
            return ways[state], state
        for letter, behind in steps[state]:
            if behind not in ways:
                ways[behind] = ways[state] + (letter,)
                todo.append(behind)
    return None
