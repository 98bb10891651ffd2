"""Expressions written as texts, and read from them."""

from stillopen.errors import BadText
from stillopen.expressions import AROUND_MOST
from stillopen.words import TEXT_MOST, behind_letters

PAIR_SIGNS = {"next": "+", "later": "~"}
PAIR_FORMS = {"+": "next", "~": "later"}


def written(expression):
    """The text of an expression."""
    word = expression[0]
    if word == "path":
        return "".join([_written_step(step) for step in expression[1]])
    if word == "not":
        return "not " + written(expression[1])
    return "(" + written(expression[1]) + " " + word + " " + written(expression[2]) + ")"


def _written_step(step):
    """The text of a step."""
    if len(step) == 3:
        return step[0] + ("#" if step[2] is None else '"' + step[2] + '"')
    axis, form, test, other = step
    text = _written_test(test)
    if other is not None:
        return axis + text + PAIR_SIGNS[form] + _written_test(other)
    if form == "first":
        return axis + "^" + text
    if form == "last":
        return axis + text + "$"
    return axis + text + ("" if form == 1 else "{" + str(form) + "}")


def _written_test(test):
    """The text of a test."""
    label, filters = test
    return ("*" if label is None else label) + "".join(["[" + written(part) + "]" for part in filters])


def read_whole(text):
    """The expression of a text; BadText for a string that is none."""
    expression, behind = _read_expression(text, 0, 0)
    if behind < len(text):
        raise BadText(behind)
    return expression


def _behind_word(text, at, word):
    """The place behind a word that has to stand at a place."""
    for place, character in enumerate(word):
        if text[at + place:at + place + 1] != character:
            raise BadText(at + place)
    return at + len(word)


def _read_expression(text, at, around):
    """(the expression that begins at a place, so many others standing around it, the place behind it)."""
    sign = text[at:at + 1]
    if sign == "n" and around < AROUND_MOST:
        part, behind = _read_expression(text, _behind_word(text, at, "not "), around + 1)
        return ("not", part), behind
    if sign == "(" and around < AROUND_MOST:
        return _read_two(text, at + 1, around + 1)
    return _read_path(text, at, around)


def _read_two(text, at, around):
    """(the expression of two parts, the first of which begins at a place, the place behind it)."""
    first, behind = _read_expression(text, at, around)
    behind = _behind_word(text, behind, " ")
    word = "or" if text[behind:behind + 1] == "o" else "and"
    second, behind = _read_expression(text, _behind_word(text, behind, word + " "), around)
    return (word, first, second), _behind_word(text, behind, ")")


def _read_path(text, at, around):
    """(the path that begins at a place, the place behind it)."""
    step, behind = _read_step(text, at, around)
    steps = [step]
    while len(step) == 4 and text[behind:behind + 1] == "/":
        step, behind = _read_step(text, behind, around)
        steps.append(step)
    return ("path", tuple(steps)), behind


def _read_step(text, at, around):
    """(the step that begins at a place, the place behind it)."""
    first = _behind_word(text, at, "/")
    axis = "//" if text[first:first + 1] == "/" else "/"
    first = at + len(axis)
    sign = text[first:first + 1]
    if sign == "#":
        return (axis, "text", None), first + 1
    if sign == '"':
        string, behind = _read_string(text, first + 1)
        return (axis, "text", string), behind
    if sign == "^":
        test, behind = _read_test(text, first + 1, around)
        return (axis, "first", test, None), behind
    test, behind = _read_test(text, first, around)
    sign = text[behind:behind + 1]
    if sign == "$":
        return (axis, "last", test, None), behind + 1
    if sign == "{" and axis == "/":
        form, behind = _read_many(text, behind + 1)
        return (axis, form, test, None), behind
    if sign in PAIR_FORMS:
        other, behind = _read_test(text, behind + 1, around)
        return (axis, PAIR_FORMS[sign], test, other), behind
    return (axis, 1, test, None), behind


def _read_string(text, first):
    """(the string that begins at a place and ends ahead of a double quote, the place behind this)."""
    behind = text.find('"', first)
    end = len(text) if behind == -1 else behind
    if end - first > TEXT_MOST:
        raise BadText(first + TEXT_MOST)
    if behind == -1:
        raise BadText(end)
    return text[first:end], end + 1


def _read_many(text, at):
    """(how many elements are asked for, the place behind the brace)."""
    sign = text[at:at + 1]
    if sign not in ("2", "3"):
        raise BadText(at)
    return int(sign), _behind_word(text, at + 1, "}")


def _read_test(text, at, around):
    """(the test that begins at a place, the place behind it)."""
    label, behind = (None, at + 1) if text[at:at + 1] == "*" else _read_label(text, at)
    filters = []
    while text[behind:behind + 1] == "[" and around < AROUND_MOST:
        part, behind = _read_expression(text, behind + 1, around + 1)
        filters.append(part)
        behind = _behind_word(text, behind, "]")
    return (label, tuple(filters)), behind


def _read_label(text, first):
    """(the label that begins at a place, the place behind it)."""
    behind = behind_letters(text, first)
    if behind == first:
        raise BadText(first)
    return text[first:behind], behind
