"""Expressions: what they are, what they say of documents, their questions, and their texts."""

from stillopen.errors import BadText, Refused
from stillopen.expressions import checked
from stillopen.pathfacts import facts_for
from stillopen.pathrows import by_row, rows_of
from stillopen.pathtexts import read_whole, written


def check_expression(value):
    """The expression as tuples; Refused for any value that is none."""
    expression = checked(value, 0)
    if expression is None:
        raise Refused(value)
    return expression


def path_holds(expression, document):
    """Whether an expression is so of a document."""
    return by_row(check_expression(expression), rows_of(document))[0]


def question_of(expression):
    """A question whose last fact is so of just the documents that an expression is so of."""
    return facts_for(check_expression(expression))


def path_text(expression):
    """The text of an expression."""
    return written(check_expression(expression))


def read_path(text):
    """The expression of a text; BadText for any value that is none."""
    if not isinstance(text, str):
        raise BadText(-1)
    return read_whole(text)
