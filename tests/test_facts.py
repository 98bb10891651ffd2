"""[10], [11], [14]: facts, questions, meanings."""

import unittest

from stillopen.errors import BadForm, BadQuestion, NoFact, Refused
from stillopen.facts import check_question, meaning, meanings, row_facts
from given import ANY_VALUES, Case, as_lists, seeded, some_document, some_question

ALWAYS = (("label", "a"), ("not", 0), ("or", 0, 1))
WORDS_OF_ONE = ("first", "last", "inside", "not")
WORDS_OF_TWO = ("later", "next", "and", "or")


def el(label, *row):
    return ("element", label, row)


def is_so(question, f, label, row):
    """Whether a fact is so of a row, told by recursion straight from [10]."""
    word, *parts = question[f]
    inner = [part for part in row if part[0] == "element"]

    def of(number, part):
        return is_so(question, number, part[1], part[2])

    def within(part):
        return [part] + [one for other in part[2] if other[0] == "element" for one in within(other)]

    if word == "text":
        return sum(1 for part in row if part[0] == "text" and parts[0] in (None, part[1])) >= parts[1]
    if word == "label":
        return label == parts[0]
    if word == "child":
        return sum(of(parts[0], part) for part in inner) >= parts[1]
    if word == "modulo":
        return sum(of(parts[0], part) for part in inner) % parts[1] == parts[2]
    if word == "later":
        pairs = [(one, other) for at, one in enumerate(inner) for other in inner[at + 1:]]
        return any(of(parts[0], one) and of(parts[1], other) for one, other in pairs)
    if word == "next":
        return any(of(parts[0], one) and of(parts[1], other) for one, other in zip(inner, inner[1:]))
    if word in ("first", "last"):
        return bool(inner) and of(parts[0], inner[0 if word == "first" else -1])
    if word == "inside":
        return any(of(parts[0], one) for part in inner for one in within(part))
    told = [is_so(question, number, label, row) for number in parts]
    return {"not": not told[0], "and": all(told), "or": any(told)}[word]


class Questions(Case):
    def test_each_fact(self):
        ahead = (("label", "a"), ("text", "t", 1), ("label", "b"))
        good = [("text", "", 1), ("text", None, 3), ("text", "\u00e9" * 65535, 2), ("label", "z" * 12), ("child", 0, 1),
                ("child", 2, 3), ("modulo", 2, 2, 0), ("modulo", 0, 4, 3), ("modulo", 1, 2, 1)]
        good += [(word, f) for word in WORDS_OF_ONE for f in (0, 2)]
        good += [(word, f, g) for word in WORDS_OF_TWO for f in (0, 2) for g in (0, 2)]
        for fact in good:
            self.assertEqual(check_question(ahead + (fact,)), ahead + (fact,))
            self.assertEqual(check_question(as_lists(ahead + (fact,))), ahead + (fact,))
            self.assertTuples(check_question(as_lists(ahead + (fact,))))

    def test_wrong_facts(self):
        ahead = (("label", "a"), ("text", "t", 1), ("label", "b"))
        wrong = [("text", "t", 0), ("text", "t", 4), ("text", "t", True), ("text", "t", None), ("text", "x" * 65536, 1),
                 ("text", 1, 1), ("text", "t"), ("text", "t", 1, 1), ("text", ["t"], 1), ("text", False, 1),
                 ("label",), ("label", ""), ("label", "A"), ("label", None), ("label", "a", "b"), ("label", "a" * 13),
                 ("child", 3, 1), ("child", -1, 1), ("child", True, 1), ("child", 0, 0), ("child", 0, 4), ("child", 0),
                 ("child", 0, 1, 1), ("child", None, 1), ("child", "0", 1), ("child", 0, True),
                 ("modulo", 0, 1, 0), ("modulo", 0, 5, 0), ("modulo", 0, 2, 2), ("modulo", 0, 2, -1), ("modulo", 3, 2, 0),
                 ("modulo", 0, 4, 4), ("modulo", 0, True, 0), ("modulo", 0, 2, True), ("modulo", 0, 2), ("modulo", 0, None, 0),
                 ("modulo", 0, 2, False), ("modulo", 0, "2", 0),
                 (), None, "label", 3, ("path", 0), ("Not", 0), (None, 0), (["not"], 0), (0, 0), ("",)]
        wrong += [(word, f) for word in WORDS_OF_ONE for f in (3, -1, True, False, None, "0", 10 ** 30)]
        wrong += [(word,) for word in WORDS_OF_ONE] + [(word, 0, 0) for word in WORDS_OF_ONE]
        wrong += [(word, f, g) for word in WORDS_OF_TWO for f, g in ((3, 0), (0, 3), (True, 0), (0, False), (0, None))]
        wrong += [(word, 0) for word in WORDS_OF_TWO] + [(word, 0, 0, 0) for word in WORDS_OF_TWO]
        for fact in wrong:
            for question in (ahead + (fact,), [*ahead, fact, None], ahead + (fact, ("label", ""))):
                self.assertFails(BadQuestion, 3, check_question, question)
                self.assertFails(BadQuestion, 3, row_facts, question, None, None)
                self.assertFails(BadQuestion, 3, meaning, question, None)
                self.assertFails(BadQuestion, 3, meanings, question, None, None)
        for word in WORDS_OF_ONE:
            self.assertFails(BadQuestion, 0, check_question, ((word, 0),))
        for word in WORDS_OF_TWO:
            self.assertFails(BadQuestion, 1, check_question, (("label", "a"), (word, 0, 1)))
            self.assertFails(BadQuestion, 1, check_question, (("label", "a"), (word, 1, 0)))

    def test_wrong_shapes(self):
        for value in (None, 3, "text", True, (), [], (("label", "a"),) * 101, [None] * 101, {}):
            self.assertFails(BadQuestion, -1, check_question, value)
        self.assertEqual(len(check_question((("label", "a"),) * 100)), 100)
        self.assertFails(BadQuestion, 0, check_question, (None,))
        self.assertFails(BadQuestion, 99, check_question, (("label", "a"),) * 99 + (("not", 99),))

    def test_any_value(self):
        for value in ANY_VALUES:
            self.assertTuples(self.assertOnly((BadQuestion,), check_question, value))
            for document in ((), value):
                self.assertOnly((BadQuestion, BadForm), row_facts, value, None, document)
                self.assertOnly((BadQuestion, BadForm), meaning, value, document)
                self.assertOnly((BadQuestion, Refused, NoFact, BadForm), meanings, value, value, document)
                self.assertOnly((Refused, NoFact, BadForm), meanings, ALWAYS, value, document)
            self.assertOnly((BadForm,), row_facts, ALWAYS, None, value)


class Meanings(Case):
    def test_counts_and_orders(self):
        row = (("text", "t"), el("a"), ("text", "u"), el("b"), el("a", el("b")), ("text", "t"))
        question = (("label", "a"), ("label", "b"), ("text", "t", 2), ("text", "t", 3), ("text", None, 3), ("text", "", 1),
                    ("child", 0, 2), ("child", 0, 3), ("child", 1, 1), ("modulo", 0, 2, 0), ("modulo", 0, 2, 1),
                    ("modulo", 1, 3, 1), ("later", 0, 1), ("later", 1, 1), ("next", 0, 1), ("next", 0, 0), ("first", 0),
                    ("first", 1), ("last", 0), ("last", 1), ("inside", 1), ("inside", 8), ("and", 8, 7), ("or", 8, 7))
        told = (False, False, True, False, True, False, True, False, True, True, False, True, True, False, True, False, True,
                False, True, False, True, True, False, True)
        self.assertEqual(row_facts(question, None, row), told)
        self.assertEqual(row_facts(question, "a", row), (True,) + told[1:])
        self.assertEqual(row_facts(question, "c", as_lists(row)), told)
        self.assertEqual(meaning(question, row), True)
        self.assertEqual(meanings(question, [23, 3, 3, 0], row), (True, False, False, False))
        self.assertTuples(meanings(question, [0], row))

    def test_empty_rows(self):
        question = ALWAYS + (("text", None, 1), ("child", 2, 1), ("modulo", 2, 3, 0), ("later", 2, 2), ("next", 2, 2),
                             ("first", 2), ("last", 2), ("inside", 2))
        self.assertEqual(row_facts(question, None, ())[3:], (False, False, True, False, False, False, False, False))
        self.assertEqual(row_facts(question, None, [el("b")])[3:], (False, True, False, False, False, True, True, True))
        self.assertEqual(row_facts(question, "a", ())[:3], (True, False, True))

    def test_inside_is_not_the_row_itself(self):
        question = (("label", "a"), ("inside", 0))
        self.assertEqual(row_facts(question, "a", ()), (True, False))
        self.assertEqual(row_facts(question, None, (el("a"),)), (False, True))
        self.assertEqual(row_facts(question, None, (el("b", el("b", el("a"))),)), (False, True))
        self.assertEqual(row_facts(question, None, (el("b", el("b")),)), (False, False))

    def test_by_recursion(self):
        chance = seeded(10)
        for _ in range(400):
            question = some_question(chance, chance.randint(1, 12), labels=("a", "b"), texts=("", "t"))
            document = some_document(chance, 10, labels=("a", "b"), texts=("", "t", "u"))
            label = chance.choice((None, "a", "b", "c"))
            told = tuple(is_so(question, f, label, document) for f in range(len(question)))
            self.assertEqual(row_facts(question, label, as_lists(document)), told)
            told = tuple(is_so(question, f, None, document) for f in range(len(question)))
            self.assertEqual(meaning(as_lists(question), document), told[-1])
            asked = [chance.randrange(len(question)) for _ in range(chance.randint(1, 9))]
            self.assertEqual(meanings(question, asked, document), tuple(told[f] for f in asked))

    def test_a_row_hangs_on_its_elements_facts(self):
        chance = seeded(14)
        seen = {}
        for _ in range(1500):
            question = (("label", "a"), ("text", "t", 1), ("and", 0, 1), ("inside", 2), ("later", 0, 1), ("modulo", 4, 2, 1))
            document = some_document(chance, 6, labels=("a", "b"), texts=("", "t"))
            inner = tuple(row_facts(question, part[1], part[2]) if part[0] == "element" else part for part in document)
            key = (tuple(part for part in inner if part[0] == "text"), tuple(part for part in inner if part[0] != "text"))
            self.assertEqual(seen.setdefault(key, row_facts(question, None, document)), row_facts(question, None, document))

    def test_errors_in_order(self):
        question = (("label", "a"), ("not", 0))
        for asked in (None, 0, "0", (), [], True):
            self.assertFails(Refused, asked, meanings, question, asked, None)
        for asked, wrong in (((2,), 2), ([0, -1, 7], -1), ((True,), True), ((0, None), None), (((0,), 9), (0,)), (["1"], "1"),
                             ([0, [0]], [0]), ((10 ** 30,), 10 ** 30), ((False,), False)):
            self.assertFails(NoFact, wrong, meanings, question, asked, None)
        self.assertFails(BadForm, -1, meanings, question, (0,), None)
        self.assertFails(BadForm, 1, meanings, question, (0,), (el("a", None),))
        self.assertFails(BadForm, 1, meaning, question, (el("a", None),))
        self.assertFails(BadForm, 1, row_facts, question, "a", (el("a", None),))
        self.assertFails(BadQuestion, -1, meanings, (), None, None)
        self.assertEqual(len(meanings(question, (0,) * 100, ())), 100)

    def test_great(self):
        chance = seeded(3)
        question = some_question(chance, 100, labels=("a", "b"), texts=("t",))
        row = ()
        for _ in range(18):
            row = (el("a", *row),) + (el("b"),) * 15
        self.assertWithin(5, row_facts, question, "a", row)
        wide = tuple(el("b") if at % 2 else ("text", "t") for at in range(300))
        self.assertWithin(5, meanings, question, (99, 0), wide)
        self.assertIs(self.assertWithin(5, meaning, (("text", None, 3), ("not", 0), ("or", 0, 1)), wide), True)


if __name__ == "__main__":
    unittest.main()
