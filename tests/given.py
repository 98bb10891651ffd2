"""Inputs for the tests: any values, and many things made by chance from a seed."""

import random
import time
import unittest

from stillopen.errors import BadMachine, BadSign, NoFact, OpenError, TooGreat
from stillopen.picture import machine_for


def nested(value, deep):
    """The value within so many tuples and lists."""
    for level in range(deep):
        value = [value] if level % 2 else (value,)
    return value


ANY_MACHINE = (("a",), (), (1, 0, ((0,),), ((0,),), ((True,),)), (1, (0, 0), ((0,),), ((0,),)))
ANY_VALUES = (
    0, 1, 2, 3, -1, 255, 256, 10 ** 40, -(10 ** 40), True, False, None,
    "", "a", "open", "text", "close", "element", "path", "not", "\udc80\u00e9\U0001f600\0", "/", "<a>", "x" * 70000,
    [], (), [[]], ((),), (None,), [True], [0], (1, 2), ("open",), ("open", "a"), ("open", "A"), ["text", ""],
    ("text", 5), ("close",), ("close", 1), ("close", "close"), [("open", "a")], [("close",)], [["text", "x"]],
    ("element", "a", ()), [("element", "a", [None])], [("element", "a", ())], ("path", ()), ("path", [("/", 1)]),
    ("not", ("not", None)), ("and", None, None), ("or", ("path", [("/", "text", None)])), [("label", "a")],
    [("text", None, True)], (("not", 0),), [("child", 0, 1)], ((), (), (), ()), [[], [], [], []],
    ANY_MACHINE,
    OpenError(), BadSign(1), [NoFact(None)], ("open", OpenError()), (BadSign(0), "a"),
    nested("a", 40), nested(("open", "a"), 38), nested(10 ** 30, 40), nested(("element", "a", ()), 38), nested((), 39),
)


class Case(unittest.TestCase):
    """A test case with the checks that all these tests need."""

    def assertFails(self, error, kept, call, *given, **more):
        """The call raises just this error, which keeps just this."""
        with self.assertRaises(error) as caught:
            call(*given, **more)
        self.assertIs(type(caught.exception), error)
        names = {"TooGreat": "most", "NoFact": "value", "NoState": "value", "NoLabel": "value"}
        told = getattr(caught.exception, names.get(error.__name__, "at"))
        self.assertEqual(told, kept)
        self.assertIs(type(told), type(kept))

    def assertOnly(self, errors, call, *given, **more):
        """The call raises nothing but these errors; gives what it returns, or the error."""
        try:
            return call(*given, **more)
        except errors as error:
            self.assertIn(type(error), errors)
            return error

    def assertTuples(self, value):
        """No list stands in what is returned."""
        self.assertNotIsInstance(value, list)
        if isinstance(value, tuple):
            for part in value:
                self.assertTuples(part)

    def assertMachineFirst(self, call):
        """The call, of a machine, raises BadMachine of each value that is none, whatever comes behind it."""
        for at, value in NO_MACHINES:
            self.assertFails(BadMachine, at, call, value)
        for value in ANY_VALUES:
            if value != ANY_MACHINE:
                with self.assertRaises(BadMachine):
                    call(value)

    def assertWithin(self, seconds, call, *given, **more):
        """The call takes no longer; gives what it returns."""
        began = time.perf_counter()
        result = call(*given, **more)
        self.assertLess(time.perf_counter() - began, seconds)
        return result


def as_lists(value):
    """The same with lists in the place of tuples."""
    return [as_lists(part) for part in value] if isinstance(value, (list, tuple)) else value


LABELS = ("a", "b", "c", "ab")
TEXTS = ("", "t", "u", "a b")


def some_document(chance, nodes=8, deep=4, labels=LABELS, texts=TEXTS):
    """A document of at most so many nodes, at most so many elements one within another."""
    left = [chance.randint(0, nodes)]
    going_on = chance.choice((0.6, 0.75, 0.9))
    of_texts = chance.choice((0.1, 0.35, 0.6))
    deep = chance.randint(1, deep)

    def row(level):
        made = []
        while left[0] > 0 and chance.random() < going_on:
            left[0] -= 1
            if level == deep or chance.random() < of_texts:
                made.append(("text", chance.choice(texts)))
            else:
                made.append(("element", chance.choice(labels), row(level + 1)))
        return tuple(made)

    return row(0)


def some_prefix(chance, many=10, labels=LABELS, texts=TEXTS):
    """A prefix of so many signs."""
    signs = []
    level = 0
    for _ in range(many):
        word = chance.choice(("open", "close", "text", "open", "close"))
        if word == "text":
            signs.append(("text", chance.choice(texts)))
        elif word == "open" or level == 0:
            signs.append(("open", chance.choice(labels)))
            level += 1
        else:
            signs.append(("close",))
            level -= 1
    return tuple(signs)


def some_question(chance, many=8, labels=LABELS, texts=TEXTS):
    """A question of so many facts."""
    facts = []
    for number in range(many):
        f, g, n = chance.randrange(number + 1), chance.randrange(number + 1), chance.randint(1, 3)
        m = chance.randint(2, 4)
        text = ("text", chance.choice(texts + (None,)), n)
        label = ("label", chance.choice(labels))
        told = (("child", f, n), ("modulo", f, m, chance.randrange(m)), ("later", f, g), ("next", f, g), ("first", f),
                ("last", f), ("inside", f), ("not", f), ("and", f, g), ("or", f, g))
        is_told = f < number and g < number and chance.random() < 0.75
        facts.append(chance.choice(told) if is_told else chance.choice((text, label)))
    return tuple(facts)


def some_expression(chance, around=0, deep=2, labels=LABELS[:2], texts=("", "t")):
    """An expression, with no more than so many around its innermost parts."""
    word = chance.choice(("path", "path", "path", "not", "and", "or")) if around < deep else "path"
    if word == "not":
        return ("not", some_expression(chance, around + 1, deep, labels, texts))
    if word != "path":
        return (word,) + tuple(some_expression(chance, around + 1, deep, labels, texts) for _ in range(2))

    def test():
        many = chance.choice((0, 0, 0, 1, 2)) if around < deep else 0
        filters = tuple(some_expression(chance, around + 1, deep, labels, texts) for _ in range(many))
        return (chance.choice(labels + (None,)), filters)

    steps = []
    many = chance.randint(1, 3)
    for place in range(many):
        axis = chance.choice(("/", "/", "//"))
        if place == many - 1 and chance.random() < 0.25:
            steps.append((axis, "text", chance.choice(texts + (None,))))
            continue
        form = chance.choice((1, 1, 1, "first", "last", "next", "later") + ((2, 3) if axis == "/" else ()))
        steps.append((axis, form, test(), test() if form in ("next", "later") else None))
    return ("path", tuple(steps))


def some_machine(chance, labels=("a",), texts=("t",), inner=3, top=3, words=1):
    """A machine with these names, of so many states."""

    def states(length, many):
        return tuple(chance.randrange(many) for _ in range(length))

    def maps(length, many):
        return tuple(states(many, many) for _ in range(length))

    answers = tuple(tuple(chance.random() < 0.5 for _ in range(words)) for _ in range(top))
    tops = (top, chance.randrange(top), maps(len(texts) + 1, top), maps(inner, top), answers)
    return labels, texts, tops, (inner, states(len(labels) + 1, inner), maps(len(texts) + 1, inner), maps(inner, inner))


def read_plainly(machine, document):
    """The answer of a machine, told by recursion straight from [15], [16]."""
    labels, texts, tops, inners = machine

    def kind(names, value):
        return names.index(value) if value in names else len(names)

    def row(state, part, nodes):
        for node in nodes:
            if node[0] == "text":
                state = part[2][kind(texts, node[1])][state]
            else:
                state = part[3][row(inners[1][kind(labels, node[1])], inners, node[2])][state]
        return state

    return tops[4][row(tops[1], tops, document)]


def disguised(chance, machine, inner, top, labels=(), texts=()):
    """A machine of so many states that answers alike, each of its states doing as one of the machine's."""
    old_labels, old_texts, tops, inners = machine
    labels = tuple(sorted({*old_labels, *labels}))
    texts = tuple(sorted({*old_texts, *texts}))

    def kinds(old, names):
        return [old.index(name) if name in old else len(old) for name in names] + [len(old)]

    def copies(many, all_many):
        likes = list(range(many)) + [chance.randrange(many) for _ in range(all_many - many)]
        chance.shuffle(likes)
        return likes

    def some_like(likes, state):
        return chance.choice([new for new, old in enumerate(likes) if old == state])

    like, like_top = copies(inners[0], inner), copies(tops[0], top)
    inner_texts = tuple(tuple(some_like(like, inners[2][k][old]) for old in like) for k in kinds(old_texts, texts))
    inner_rows = tuple(tuple(some_like(like, inners[3][child][old]) for old in like) for child in like)
    top_texts = tuple(tuple(some_like(like_top, tops[2][k][old]) for old in like_top) for k in kinds(old_texts, texts))
    top_rows = tuple(tuple(some_like(like_top, tops[3][child][old]) for old in like_top) for child in like)
    starts = tuple(some_like(like, inners[1][k]) for k in kinds(old_labels, labels))
    answers = tuple(tops[4][old] for old in like_top)
    new_top = (top, some_like(like_top, tops[1]), top_texts, top_rows, answers)
    return labels, texts, new_top, (inner, starts, inner_texts, inner_rows)


def great_machine(many, words=1, turn=7):
    """A machine of so many inner and top states, all of which are come to."""
    step = tuple((state + 1) % many for state in range(many))
    rows = tuple(tuple((state * turn + child) % many for state in range(many)) for child in range(many))
    answers = tuple(tuple(state % (word + 2) == 0 for word in range(words)) for state in range(many))
    return ("a",), ("t",), (many, 0, (step, step), rows, answers), (many, (0, 1), (step, step), rows)


def turning_machine(many):
    """A machine that counts texts up to so many, then from nothing again, in inner and in top rows."""
    step = tuple((state + 1) % many for state in range(many))
    rest = tuple(range(many))
    answers = tuple((state == 0,) for state in range(many))
    return (), (), (many, 0, (step,), (rest,) * many, answers), (many, (0,), (step,), (rest,) * many)


HAS = (("a",), (), (2, 0, ((0, 1),), ((0, 1), (1, 1)), ((False,), (True,))), (2, (1, 0), ((0, 1),), ((0, 1), (1, 1))))
ONE = ((), (), (1, 0, ((0,),), ((0,),), ((True,),)), (1, (0,), ((0,),), ((0,),)))
NO_MACHINES = ((-1, None), (-1, HAS[:3]), (0, (("A",),) + HAS[1:]), (1, HAS[:1] + ((None,),) + HAS[2:]),
               (3, HAS[:3] + ((),)), (2, HAS[:2] + ((),) + HAS[3:]), (3, HAS[:2] + ((), ())))


QUESTION = (("label", "a"), ("text", "x", 1), ("and", 0, 1), ("inside", 2))
ALL_DOCUMENTS = {}


def documents_of(many, labels=("a", "b"), texts=("t", "u")):
    """All documents of just so many signs, with these labels and texts."""
    told = (many, labels, texts)
    if told not in ALL_DOCUMENTS:
        found = [()] if many == 0 else []
        if many > 0:
            found += [(("text", text),) + rest for text in texts for rest in documents_of(many - 1, labels, texts)]
        for inside in range(many - 1):
            for row in documents_of(inside, labels, texts):
                for rest in documents_of(many - 2 - inside, labels, texts):
                    found += [(("element", label, row),) + rest for label in labels]
        ALL_DOCUMENTS[told] = found
    return ALL_DOCUMENTS[told]


def plain_signs(document):
    """The stream of a document, told by recursion."""
    signs = ()
    for node in document:
        signs += (node,) if node[0] == "text" else (("open", node[1]),) + plain_signs(node[2]) + (("close",),)
    return signs


def endings_of(depth, many, labels=("a", "b"), texts=("t", "u")):
    """All endings of a depth of just so many signs."""
    if depth == 0:
        return [plain_signs(document) for document in documents_of(many, labels, texts)]
    found = []
    for inside in range(many):
        forests = [plain_signs(document) for document in documents_of(inside, labels, texts)]
        rests = endings_of(depth - 1, many - 1 - inside, labels, texts)
        found += [forest + (("close",),) + rest for forest in forests for rest in rests]
    return found


def some_words(chance, many=6):
    """A words machine of at most so many states, more or less of whose steps lead on alone."""
    many = chance.randint(1, many)
    onward = chance.random()
    steps = []
    for state in range(many):
        letters = sorted(chance.sample(range(5), chance.choice((0, 1, 1, 2, 2, 3))))
        steps.append(tuple((letter, chance.randrange(state if chance.random() < onward else 0, many)) for letter in letters))
    tops = tuple(tuple(sorted(chance.sample(range(4), chance.choice((0, 0, 1, 2))))) for _ in range(many))
    return many, chance.choice((0, 0, 0, many - 1)), tuple(steps), tops


def some_reader(chance, labels=("a",), texts=("t",), many=3, words=1):
    """A reader with these names, of so many states."""

    def maps(length):
        return tuple(tuple(chance.randrange(many) for _ in range(many)) for _ in range(length))

    answers = tuple(tuple(chance.random() < 0.5 for _ in range(words)) for _ in range(many))
    return (labels, texts, many, chance.randrange(many), maps(len(labels) + 1), maps(len(texts) + 1), maps(1)[0], answers)


def some_ladder(chance, labels=("a",), texts=("t",), manys=(2, 3), words=1):
    """A ladder with these names, of so many states by level."""

    def maps(length, many, into):
        return tuple(tuple(chance.randrange(into) for _ in range(many)) for _ in range(length))

    levels = []
    for at, many in enumerate(manys):
        opens = maps(len(labels) + 1, many, manys[at + 1]) if at + 1 < len(manys) else ()
        close = maps(1, many, manys[at - 1])[0] if at > 0 else ()
        levels.append((many, maps(len(texts) + 1, many, many), opens, close))
    answers = tuple(tuple(chance.random() < 0.5 for _ in range(words)) for _ in range(manys[0]))
    return labels, texts, chance.randrange(manys[0]), tuple(levels), answers


def ordered_machine(chance, labels=("a",), texts=("t",), inner=3, top=3, words=1):
    """A machine with these names, most maps of which change little: so its stacks keep more than those of some_machine."""

    def rows(length, many):
        stays = [chance.random() < 0.3 for _ in range(many)]

        def row():
            sort = chance.random()
            if sort < 0.4:
                return tuple(range(many))
            if sort < 0.7:
                return tuple(max(state, chance.randrange(many)) for state in range(many))
            return tuple(state if stays[state] else chance.randrange(many) for state in range(many))

        return tuple(row() for _ in range(length))

    answers = tuple(tuple(chance.random() < 0.5 for _ in range(words)) for _ in range(top))
    starts = tuple(chance.randrange(inner) for _ in range(len(labels) + 1))
    top_rows, inner_rows = rows(len(texts) + 1 + inner, top), rows(len(texts) + 1 + inner, inner)
    many = len(texts) + 1
    tops = (top, chance.randrange(top), top_rows[:many], top_rows[many:], answers)
    return labels, texts, tops, (inner, starts, inner_rows[:many], inner_rows[many:])


def any_machines(many, seed, inner=3, top=3, words=2):
    """Machines of all sorts, of no more states and words than these."""
    chance = seeded(seed)
    for _ in range(many):
        make = chance.choice((some_machine, ordered_machine, ordered_machine))
        yield make(chance, chance.choice(((), ("a",))), chance.choice(((), ("t",))), chance.randint(1, inner),
                   chance.randint(1, top), chance.randint(1, words))


def any_stack(chance, machine, deep):
    """Any stack, whether a prefix leads to it or not."""
    return (chance.randrange(machine[2][0]),) + tuple(chance.randrange(machine[3][0]) for _ in range(deep))


def step_plainly(machine, stack, sign):
    """The stack behind a sign, told straight from [30]."""
    labels, texts, tops, inners = machine

    def kind(names, value):
        return names.index(value) if value in names else len(names)

    if sign[0] == "open":
        return stack + (inners[1][kind(labels, sign[1])],)
    if sign[0] == "text":
        return stack[:-1] + ((tops if len(stack) == 1 else inners)[2][kind(texts, sign[1])][stack[-1]],)
    return stack[:-2] + ((tops if len(stack) == 2 else inners)[3][stack[-1]][stack[-2]],)


def signs_for(machine, closing=True):
    """One sign for each of those that a machine tells apart."""
    opens = [("open", label) for label in machine[0] + ("zz",)]
    texts = [("text", text) for text in machine[1] + ("zz",)]
    return opens + texts + ([("close",)] if closing else [])


def endings_plainly(machine, stack, extra):
    """By answer how many signs the shortest ending has that gives it, told by going through stacks one by one.

    No stack is looked at that has more than so many levels besides those of the first one.
    """
    signs = signs_for(machine)
    told, row, seen, many = {}, [stack], {stack}, 0
    while row:
        news = []
        for one in row:
            if len(one) == 1:
                told.setdefault(machine[2][4][one[0]], many)
            for sign in signs:
                if sign[0] == "close" and len(one) == 1 or sign[0] == "open" and len(one) == len(stack) + extra:
                    continue
                behind = step_plainly(machine, one, sign)
                if behind not in seen:
                    seen.add(behind)
                    news.append(behind)
        row, many = news, many + 1
    return told


def some_questions(many, seed, inner=6, top=12):
    """Questions, what is asked, and their machines, which have no more states than these."""
    chance = seeded(seed)
    found = 0
    while found < many:
        question = some_question(chance, chance.randint(2, 8), ("a", "b"), ("t",))
        asked = tuple(chance.randrange(len(question)) for _ in range(chance.choice((1, 1, 2, 3))))
        try:
            machine = machine_for(question, asked)
        except TooGreat:
            continue
        if machine[3][0] <= inner and machine[2][0] <= top and (machine[2][0] > 1 or chance.random() < 0.05):
            found += 1
            yield question, asked, machine


def seeded(number):
    """A source of chance that is the same each time."""
    return random.Random(number)
