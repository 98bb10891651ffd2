"""The machines of questions: what a row has to remember, so that its facts can be told."""

from stillopen.errors import Refused, TooGreat
from stillopen.facts import JOINING, check_asked, check_question, of_joined, only_used
from stillopen.machineforms import LABELS_MOST, TEXTS_MOST, WORDS_MOST
from stillopen.reach import inner_states, machine_from, top_states

# What a row remembers once such a fact is so of it; of counted facts this is their last part.
SO_AT = {"later": 2, "next": 2, "first": 2, "last": 1, "inside": 1}


def _truths(facts, label, memory):
    """By fact whether it is so of a row in an element of a label, or of no label that is named."""
    told = []
    for number, fact in enumerate(facts):
        word = fact[0]
        if word == "label":
            told.append(fact[1] == label)
        elif word in JOINING:
            told.append(of_joined(fact, told))
        else:
            told.append(memory[number] == SO_AT.get(word, fact[-1]))
    return tuple(told)


def _behind_text(facts, memory, text):
    """What a row remembers behind a text, None being one that is not named."""
    row = []
    for fact, held in zip(facts, memory):
        if fact[0] == "text" and fact[1] in (None, text):
            row.append(min(held + 1, fact[2]))
        else:
            row.append(held)
    return tuple(row)


def _behind_element(facts, memory, truths):
    """What a row remembers behind an element of which these facts are so."""
    row = []
    for number, fact in enumerate(facts):
        row.append(_held_behind(fact, memory[number], truths, number))
    return tuple(row)


def _held_behind(fact, held, truths, number):
    """What a row remembers of one fact behind an element of which these facts are so."""
    word = fact[0]
    if word in ("text", "label") or word in JOINING:
        return held
    first = truths[fact[1]]
    if word == "child":
        return min(held + 1, fact[2]) if first else held
    if word == "modulo":
        return (held + 1) % fact[2] if first else held
    if word == "first":
        return held if held > 0 else (2 if first else 1)
    if word == "last":
        return 1 if first else 0
    if word == "inside":
        return 1 if held == 1 or first or truths[number] else 0
    if held == 2 or (held == 1 and truths[fact[2]]):
        return 2
    return 1 if first or (word == "later" and held == 1) else 0


class Memories:
    """What rows can remember, numbered, and how they are led on; what was told once is kept."""

    def __init__(self, facts, labels, texts):
        self.facts = facts
        self.labels = labels + (None,)
        self.texts = texts + (None,)
        self.rows = []
        self.numbers = {}
        self.truths = {}
        self.lots = {}
        self.behind = {}

    def number_of(self, memory):
        """The number of what a row remembers."""
        if memory not in self.numbers:
            self.numbers[memory] = len(self.rows)
            self.rows.append(memory)
        return self.numbers[memory]

    def truths_of(self, state):
        """The facts of a row by (kind of label, number of what it remembers)."""
        if state not in self.truths:
            self.truths[state] = _truths(self.facts, self.labels[state[0]], self.rows[state[1]])
        return self.truths[state]

    def behind_texts(self, number):
        """By kind of text the number behind such a text."""
        memory = self.rows[number]
        return [self.number_of(_behind_text(self.facts, memory, text)) for text in self.texts]

    def behind_child(self, child, number):
        """The number behind an element that ends in an inner state."""
        truths = self.truths_of(child)
        lot = self.lots.setdefault(truths, len(self.lots))
        if (lot, number) not in self.behind:
            memory = _behind_element(self.facts, self.rows[number], truths)
            self.behind[(lot, number)] = self.number_of(memory)
        return self.behind[(lot, number)]


def _inner_steps(rows):
    """The steps of inner rows: their states are pairs of a kind of label and a number."""
    empty = rows.number_of((0,) * len(rows.facts))
    return (
        [(kind, empty) for kind in range(len(rows.labels))],
        lambda state: [(state[0], number) for number in rows.behind_texts(state[1])],
        lambda child, state: (state[0], rows.behind_child(child, state[1])),
    )


def _top_steps(rows):
    """The steps of top rows: their states are numbers."""
    empty = rows.number_of((0,) * len(rows.facts))
    return (
        [empty],
        lambda number: rows.behind_texts(number),
        lambda child, number: rows.behind_child(child, number),
    )


def _named(facts, word):
    """The ascending strings that facts of a word name."""
    return tuple(sorted(set([fact[1] for fact in facts if fact[0] == word and fact[1] is not None])))


def _machine_of(facts, asked, names, most):
    """The machine that tells the facts that are asked, all facts being used."""
    rows = Memories(facts, names[0], names[1])
    inner_steps = _inner_steps(rows)
    top_steps = _top_steps(rows)
    inner = inner_states(inner_steps, most)
    if len(inner) > most:
        raise TooGreat(most)
    top = top_states(top_steps, inner, most)
    if len(top) > most:
        raise TooGreat(most)
    told = [_truths(facts, None, rows.rows[number]) for number in top]
    answers = [tuple([truths[number] for number in asked]) for truths in told]
    return machine_from(names, (inner_steps, inner), (top_steps, top), answers)


def compiled_all(question, asked, *, most=200):
    """A machine that answers to each document the meanings of the facts that are asked."""
    facts = check_question(question)
    numbers = check_asked(facts, asked)
    if len(numbers) > WORDS_MOST:
        raise Refused(asked)
    used, places = only_used(facts, numbers)
    names = (_named(used, "label"), _named(used, "text"))
    if len(names[0]) > LABELS_MOST or len(names[1]) > TEXTS_MOST:
        raise Refused(question)
    return _machine_of(used, places, names, most)


def compiled(question, *, most=200):
    """A machine that answers to each document the meaning of a question."""
    facts = check_question(question)
    return compiled_all(question, (len(facts) - 1,), most=most)
