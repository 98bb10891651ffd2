"""Whether expressions are so of the rows of a document."""

from stillopen.documents import signs_of
from stillopen.expressions import ENDS


def rows_of(document):
    """The rows of a document, each ahead of those in it: (label, texts, numbers of its elements' rows)."""
    rows = [(None, [], [])]
    around = [0]
    for sign in signs_of(document):
        if sign[0] == "text":
            rows[around[-1]][1].append(sign[1])
        elif sign[0] == "open":
            rows[around[-1]][2].append(len(rows))
            around.append(len(rows))
            rows.append((sign[1], [], []))
        else:
            around.pop()
    return rows


def by_row(expression, rows):
    """By row whether an expression is so of it."""
    if expression[0] == "path":
        leads = [True] * len(rows)
        for step in reversed(expression[1]):
            leads = _by_step(step, rows, leads)
        return leads
    first = by_row(expression[1], rows)
    if expression[0] == "not":
        return [not one for one in first]
    second = by_row(expression[2], rows)
    if expression[0] == "and":
        return [one and other for one, other in zip(first, second)]
    return [one or other for one, other in zip(first, second)]


def _by_step(step, rows, leads):
    """By row whether a step and those behind it lead on from it, by row whether those behind do."""
    if len(step) == 3:
        found = [step[2] in row[1] or (step[2] is None and len(row[1]) > 0) for row in rows]
    else:
        found = _by_test_step(step, rows, leads)
    if step[0] == "//":
        for number in reversed(range(len(rows))):
            found[number] = found[number] or any([found[inner] for inner in rows[number][2]])
    return found


def _by_test_step(step, rows, leads):
    """By row whether in it a step of a test leads on, by row whether the steps behind do."""
    _, form, test, other = step
    passed = _by_test(test, rows)
    if other is not None:
        goal = [one and behind for one, behind in zip(_by_test(other, rows), leads)]
        return [_has_pair(form, row[2], passed, goal) for row in rows]
    goal = [one and behind for one, behind in zip(passed, leads)]
    if form in ENDS:
        at = 0 if form == "first" else -1
        return [len(row[2]) > 0 and goal[row[2][at]] for row in rows]
    return [len([inner for inner in row[2] if goal[inner]]) >= form for row in rows]


def _has_pair(form, inner, passed, goal):
    """Whether some element passed, and the next one, or a later one, goes on."""
    for place, number in enumerate(inner):
        behind = inner[place + 1:place + 2] if form == "next" else inner[place + 1:]
        if passed[number] and any([goal[later] for later in behind]):
            return True
    return False


def _by_test(test, rows):
    """By row of an element whether this passes a test; nothing is asked of the document's own row."""
    label, filters = test
    passed = [label is None or row[0] == label for row in rows]
    for part in filters:
        passed = [one and other for one, other in zip(passed, by_row(part, rows))]
    return passed
