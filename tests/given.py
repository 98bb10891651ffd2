"""Inputs for the tests: any values, and many things made by chance from a seed."""

import random
import time
import unittest

from stillopen.errors import BadSign, NoFact, OpenError


def nested(value, deep):
    """The value within so many tuples and lists."""
    for level in range(deep):
        value = [value] if level % 2 else (value,)
    return value


ANY_VALUES = (
    0, 1, 2, 3, -1, 255, 256, 10 ** 40, -(10 ** 40), True, False, None,
    "", "a", "open", "text", "close", "element", "path", "not", "\udc80\u00e9\U0001f600\0", "/", "<a>", "x" * 70000,
    [], (), [[]], ((),), (None,), [True], [0], (1, 2), ("open",), ("open", "a"), ("open", "A"), ["text", ""],
    ("text", 5), ("close",), ("close", 1), ("close", "close"), [("open", "a")], [("close",)], [["text", "x"]],
    ("element", "a", ()), [("element", "a", [None])], [("element", "a", ())], ("path", ()), ("path", [("/", 1)]),
    ("not", ("not", None)), ("and", None, None), ("or", ("path", [("/", "text", None)])), [("label", "a")],
    [("text", None, True)], (("not", 0),), [("child", 0, 1)], ((), (), (), ()), [[], [], [], []],
    (("a",), (), (1, 0, ((0,),), ((0,),), ((True,),)), (1, (0, 0), ((0,),), ((0,),))),
    OpenError(), BadSign(1), [NoFact(None)], ("open", OpenError()), (BadSign(0), "a"),
    nested("a", 40), nested(("open", "a"), 38), nested(10 ** 30, 40), nested(("element", "a", ()), 38), nested((), 39),
)


class Case(unittest.TestCase):
    """A test case with the checks that all these tests need."""

    def assertFails(self, error, kept, call, *given, **more):
        """The call raises just this error, which keeps just this."""
        with self.assertRaises(error) as caught:
            call(*given, **more)
        self.assertIs(type(caught.exception), error)
        names = {"TooGreat": "most", "NoFact": "value", "NoState": "value", "NoLabel": "value"}
        told = getattr(caught.exception, names.get(error.__name__, "at"))
        self.assertEqual(told, kept)
        self.assertIs(type(told), type(kept))

    def assertOnly(self, errors, call, *given, **more):
        """The call raises nothing but these errors; gives what it returns, or the error."""
        try:
            return call(*given, **more)
        except errors as error:
            self.assertIn(type(error), errors)
            return error

    def assertTuples(self, value):
        """No list stands in what is returned."""
        self.assertNotIsInstance(value, list)
        if isinstance(value, tuple):
            for part in value:
                self.assertTuples(part)

    def assertWithin(self, seconds, call, *given, **more):
        """The call takes no longer; gives what it returns."""
        began = time.perf_counter()
        result = call(*given, **more)
        self.assertLess(time.perf_counter() - began, seconds)
        return result


def as_lists(value):
    """The same with lists in the place of tuples."""
    return [as_lists(part) for part in value] if isinstance(value, (list, tuple)) else value


LABELS = ("a", "b", "c", "ab")
TEXTS = ("", "t", "u", "a b")


def some_document(chance, nodes=8, deep=4, labels=LABELS, texts=TEXTS):
    """A document of at most so many nodes, at most so many elements one within another."""
    left = [chance.randint(0, nodes)]
    going_on = chance.choice((0.6, 0.75, 0.9))
    of_texts = chance.choice((0.1, 0.35, 0.6))
    deep = chance.randint(1, deep)

    def row(level):
        made = []
        while left[0] > 0 and chance.random() < going_on:
            left[0] -= 1
            if level == deep or chance.random() < of_texts:
                made.append(("text", chance.choice(texts)))
            else:
                made.append(("element", chance.choice(labels), row(level + 1)))
        return tuple(made)

    return row(0)


def some_prefix(chance, many=10, labels=LABELS, texts=TEXTS):
    """A prefix of so many signs."""
    signs = []
    level = 0
    for _ in range(many):
        word = chance.choice(("open", "close", "text", "open", "close"))
        if word == "text":
            signs.append(("text", chance.choice(texts)))
        elif word == "open" or level == 0:
            signs.append(("open", chance.choice(labels)))
            level += 1
        else:
            signs.append(("close",))
            level -= 1
    return tuple(signs)


def some_question(chance, many=8, labels=LABELS, texts=TEXTS):
    """A question of so many facts."""
    facts = []
    for number in range(many):
        f, g, n = chance.randrange(number + 1), chance.randrange(number + 1), chance.randint(1, 3)
        m = chance.randint(2, 4)
        text = ("text", chance.choice(texts + (None,)), n)
        label = ("label", chance.choice(labels))
        told = (("child", f, n), ("modulo", f, m, chance.randrange(m)), ("later", f, g), ("next", f, g), ("first", f),
                ("last", f), ("inside", f), ("not", f), ("and", f, g), ("or", f, g))
        is_told = f < number and g < number and chance.random() < 0.75
        facts.append(chance.choice(told) if is_told else chance.choice((text, label)))
    return tuple(facts)


def some_expression(chance, around=0, deep=2, labels=LABELS[:2], texts=("", "t")):
    """An expression, with no more than so many around its innermost parts."""
    word = chance.choice(("path", "path", "path", "not", "and", "or")) if around < deep else "path"
    if word == "not":
        return ("not", some_expression(chance, around + 1, deep, labels, texts))
    if word != "path":
        return (word,) + tuple(some_expression(chance, around + 1, deep, labels, texts) for _ in range(2))

    def test():
        many = chance.choice((0, 0, 0, 1, 2)) if around < deep else 0
        filters = tuple(some_expression(chance, around + 1, deep, labels, texts) for _ in range(many))
        return (chance.choice(labels + (None,)), filters)

    steps = []
    many = chance.randint(1, 3)
    for place in range(many):
        axis = chance.choice(("/", "/", "//"))
        if place == many - 1 and chance.random() < 0.25:
            steps.append((axis, "text", chance.choice(texts + (None,))))
            continue
        form = chance.choice((1, 1, 1, "first", "last", "next", "later") + ((2, 3) if axis == "/" else ()))
        steps.append((axis, form, test(), test() if form in ("next", "later") else None))
    return ("path", tuple(steps))


def some_machine(chance, labels=("a",), texts=("t",), inner=3, top=3, words=1):
    """A machine with these names, of so many states."""

    def states(length, many):
        return tuple(chance.randrange(many) for _ in range(length))

    def maps(length, many):
        return tuple(states(many, many) for _ in range(length))

    answers = tuple(tuple(chance.random() < 0.5 for _ in range(words)) for _ in range(top))
    tops = (top, chance.randrange(top), maps(len(texts) + 1, top), maps(inner, top), answers)
    return labels, texts, tops, (inner, states(len(labels) + 1, inner), maps(len(texts) + 1, inner), maps(inner, inner))


def seeded(number):
    """A source of chance that is the same each time."""
    return random.Random(number)
