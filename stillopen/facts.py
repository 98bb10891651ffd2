"""Facts of rows, questions, and what they mean."""

from stillopen.documents import signs_of
from stillopen.errors import BadQuestion, NoFact, Refused
from stillopen.words import is_label, is_number, is_number_below, is_sequence, is_text

FACTS_MOST = 100
COUNT_MOST = 3
MODULO_MOST = 4

# What stands behind the word of a fact: "f" is the number of a fact ahead, "n" a count.
PARTS = {
    "text": ("string", "n"),
    "label": ("label",),
    "child": ("f", "n"),
    "modulo": ("f", "m", "r"),
    "later": ("f", "f"),
    "next": ("f", "f"),
    "first": ("f",),
    "last": ("f",),
    "inside": ("f",),
    "not": ("f",),
    "and": ("f", "f"),
    "or": ("f", "f"),
}

# The words of facts that are told by other facts of the same row.
JOINING = ("not", "and", "or")


def _is_part(sort, value, fact, ahead):
    """Whether any value can stand in a fact, ahead of which so many stand, as a part of this sort."""
    if sort == "f":
        return is_number_below(value, ahead)
    if sort == "n":
        return is_number(value) and 1 <= value <= COUNT_MOST
    if sort == "m":
        return is_number(value) and 2 <= value <= MODULO_MOST
    if sort == "r":
        return is_number_below(value, fact[2])
    if sort == "label":
        return is_label(value)
    return value is None or is_text(value)


def _is_fact(value, ahead):
    """Whether any value is a fact ahead of which so many stand."""
    if not is_sequence(value) or len(value) == 0 or not isinstance(value[0], str):
        return False
    parts = PARTS.get(value[0])
    if parts is None or len(value) != len(parts) + 1:
        return False
    for place, sort in enumerate(parts):
        if not _is_part(sort, value[place + 1], value, ahead):
            return False
    return True


def check_question(value):
    """The question as tuples; BadQuestion for any value that is none."""
    if not is_sequence(value) or not 1 <= len(value) <= FACTS_MOST:
        raise BadQuestion(-1)
    for at, fact in enumerate(value):
        if not _is_fact(fact, at):
            raise BadQuestion(at)
    return tuple([tuple(fact) for fact in value])


def _facts_of(fact):
    """The numbers of the facts by which a fact is told."""
    parts = PARTS[fact[0]]
    return [fact[place + 1] for place, sort in enumerate(parts) if sort == "f"]


def _renumbered(fact, numbers):
    """The fact, told by the new numbers of others."""
    parts = [numbers[fact[place + 1]] if sort == "f" else fact[place + 1] for place, sort in enumerate(PARTS[fact[0]])]
    return (fact[0],) + tuple(parts)


def only_used(facts, asked):
    """(the facts that are used where these are asked, by their new numbers; what is asked, likewise)."""
    is_used = [False] * len(facts)
    for number in asked:
        is_used[number] = True
    for number in reversed(range(len(facts))):
        if is_used[number]:
            for other in _facts_of(facts[number]):
                is_used[other] = True
    numbers = {}
    used = []
    for number, fact in enumerate(facts):
        if is_used[number]:
            numbers[number] = len(used)
            used.append(_renumbered(fact, numbers))
    return tuple(used), tuple([numbers[number] for number in asked])


def check_asked(facts, asked):
    """The numbers of facts that are asked, as a tuple."""
    if not is_sequence(asked) or len(asked) == 0:
        raise Refused(asked)
    for value in asked:
        if not is_number_below(value, len(facts)):
            raise NoFact(value)
    return tuple(asked)


def _is_later(fact, inner):
    """Whether of elements, told by their facts, one has the first part and a later one the second."""
    met = False
    for told in inner:
        if met and told[fact[2]]:
            return True
        met = met or told[fact[1]]
    return False


def _is_next(fact, inner):
    """Whether of elements, told by their facts, one has the first part and the next one the second."""
    pairs = list(zip(inner, inner[1:]))
    return any([one[fact[1]] and other[fact[2]] for one, other in pairs])


def _of_inner(fact, number, inner):
    """Whether a fact that speaks of elements is so of a row with these, told by their facts."""
    word = fact[0]
    if word == "later":
        return _is_later(fact, inner)
    if word == "next":
        return _is_next(fact, inner)
    if word == "first":
        return len(inner) > 0 and inner[0][fact[1]]
    if word == "last":
        return len(inner) > 0 and inner[-1][fact[1]]
    if word == "inside":
        return any([told[fact[1]] or told[number] for told in inner])
    many = len([told for told in inner if told[fact[1]]])
    if word == "child":
        return many >= fact[2]
    return many % fact[2] == fact[3]


def of_joined(fact, told):
    """Whether a fact that joins others is so, told being whether those ahead are."""
    if fact[0] == "not":
        return not told[fact[1]]
    if fact[0] == "and":
        return told[fact[1]] and told[fact[2]]
    return told[fact[1]] or told[fact[2]]


def _of_row(facts, label, texts, inner):
    """By fact whether it is so of a row inside an element of a label, by its texts and its elements' facts."""
    told = []
    for number, fact in enumerate(facts):
        word = fact[0]
        if word == "text":
            many = len(texts) if fact[1] is None else texts.count(fact[1])
            told.append(many >= fact[2])
        elif word == "label":
            told.append(label == fact[1])
        elif word in JOINING:
            told.append(of_joined(fact, told))
        else:
            told.append(_of_inner(fact, number, inner))
    return tuple(told)


def row_facts(question, label, document):
    """By fact whether it is so of a document inside an element of a label, or, with None, of a document."""
    facts = check_question(question)
    labels = [label]
    texts = [[]]
    inner = [[]]
    for sign in signs_of(document):
        if sign[0] == "text":
            texts[-1].append(sign[1])
        elif sign[0] == "open":
            labels.append(sign[1])
            texts.append([])
            inner.append([])
        else:
            told = _of_row(facts, labels.pop(), texts.pop(), inner.pop())
            inner[-1].append(told)
    return _of_row(facts, label, texts[0], inner[0])


def meaning(question, document):
    """Whether the last fact is so of a document."""
    return row_facts(question, None, document)[-1]


def meanings(question, asked, document):
    """By fact that is asked whether it is so of a document."""
    numbers = check_asked(check_question(question), asked)
    told = row_facts(question, None, document)
    return tuple([told[number] for number in numbers])
