"""Rows of nodes of fewest signs, and to which states they lead."""

from heapq import heappop, heappush

from stillopen.documents import signs_of
from stillopen.machines import label_beside, text_beside


def _put_better(news, best, offers, queue):
    """Puts those offers into the queue that are better than all that were there of their thing."""
    for cost, thing, told in news:
        if thing not in best or cost < best[thing]:
            best[thing] = cost
            # The place of an offer stands behind its cost, so that what is told of things is never compared.
            heappush(queue, (cost, len(offers)))
            offers.append((thing, told))


def least_told(first, going_on):
    """By thing the least (cost, what is told of it), the least cost first.

    Offers are (cost, thing, what is told of it): first those there are at the beginning; going_on tells those that
    a thing brings, by it and by what was told of all that cost no more, itself too.
    """
    done = {}
    best = {}
    offers = []
    queue = []
    _put_better(first, best, offers, queue)
    while queue:
        cost, at = heappop(queue)
        thing, told = offers[at]
        if thing not in done:
            done[thing] = (cost, told)
            _put_better(going_on(thing, done), best, offers, queue)
    return done


def _with_node(element, node):
    """The element with one node more at its end."""
    return ("element", element[1], element[2] + (node,))


def _text_words(machine):
    """By kind of text such a text."""
    return machine[1] + (text_beside(machine[1]),)


def least_elements(machine):
    """By inner state that rows come to the least (how many signs, some element whose row ends in it)."""
    _, starts, texts, children = machine[3]
    words = _text_words(machine)
    names = machine[0] + (label_beside(machine[0]),)

    def going_on(state, done):
        """The offers of elements that have one node more, this element or another one standing in the other."""
        cost, element = done[state]
        news = [(cost + 1, row[state], _with_node(element, ("text", word))) for word, row in zip(words, texts)]
        for child, (more, within) in done.items():
            news.append((cost + more, children[child][state], _with_node(element, within)))
            news.append((cost + more, children[state][child], _with_node(within, element)))
        return news

    return least_told([(2, start, ("element", names[kind], ())) for kind, start in enumerate(starts)], going_on)


def node_steps(machine, texts, children):
    """(how many signs, the one node, its map) by kind of text and by state of an element, by maps of rows."""
    steps = [(1, (("text", word),), row) for word, row in zip(_text_words(machine), texts)]
    for state, (cost, element) in least_elements(machine).items():
        steps.append((cost, (element,), children[state]))
    return steps


def sign_steps(machine, texts, children):
    """The same with the signs in the place of the node."""
    return [(cost, signs_of(row), by_state) for cost, row, by_state in node_steps(machine, texts, children)]


def least_led(first, steps):
    """By states the least (how many signs, what is told) that leads there, from offers on, step by step.

    The states are tuples, each of which is led on by each step.
    """

    def going_on(states, done):
        """The offers of states that one step more leads to."""
        cost, told = done[states]
        news = []
        for more, behind, by_state in steps:
            news.append((cost + more, tuple([by_state[state] for state in states]), told + behind))
        return news

    return least_told(first, going_on)
