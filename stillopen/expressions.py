"""What an expression is."""

from stillopen.words import is_label, is_number, is_row_of, is_sequence, is_text

AROUND_MOST = 12
AXES = ("/", "//")
ENDS = ("first", "last")
PAIRS = ("next", "later")


def checked(value, around):
    """An expression, so many others standing around it, as tuples; None for any value that is none."""
    if around > AROUND_MOST or not is_sequence(value) or len(value) == 0:
        return None
    word = value[0]
    if word == "path" and len(value) == 2:
        steps = _checked_steps(value[1], around)
        return None if steps is None else ("path", steps)
    if (word == "not" and len(value) == 2) or (word in ("and", "or") and len(value) == 3):
        parts = [checked(part, around + 1) for part in value[1:]]
        return None if None in parts else (word,) + tuple(parts)
    return None


def _checked_steps(value, around):
    """The steps of a path as tuples; None for any value that is none."""
    if not is_sequence(value) or len(value) == 0:
        return None
    steps = [_checked_step(step, around) for step in value]
    if None in steps or any([len(step) == 3 for step in steps[:-1]]):
        return None
    return tuple(steps)


def _checked_step(value, around):
    """A step as tuples; None for any value that is none."""
    if not is_sequence(value) or len(value) not in (3, 4) or value[0] not in AXES:
        return None
    if len(value) == 3:
        return tuple(value) if value[1] == "text" and _is_asked_text(value[2]) else None
    axis, form, test, other = value
    first = _checked_test(test, around)
    if first is None:
        return None
    if form in PAIRS:
        second = _checked_test(other, around)
        return None if second is None else (axis, form, first, second)
    if other is not None or not _is_lone_form(axis, form):
        return None
    return axis, form, first, None


def _is_asked_text(value):
    """Whether any value can be asked for by a step of a text."""
    return value is None or (is_text(value) and '"' not in value)


def _is_lone_form(axis, value):
    """Whether any value is a form of steps with one test alone."""
    if is_number(value):
        return value == 1 or (value in (2, 3) and axis == "/")
    return value in ENDS


def _checked_test(value, around):
    """A test as tuples; None for any value that is none."""
    if not is_row_of(value, 2) or not (value[0] is None or is_label(value[0])) or not is_sequence(value[1]):
        return None
    filters = [checked(part, around + 1) for part in value[1]]
    return None if None in filters else (value[0], tuple(filters))
