"""[19] to [21]: the machines of questions."""

import itertools
import unittest

from stillopen.compiled import compiled, compiled_all
from stillopen.errors import BadQuestion, NoFact, Refused, TooGreat
from stillopen.facts import meaning, meanings
from stillopen.machines import answer, check_machine, trimmed
from stillopen.paths import path_holds, question_of
from given import ANY_VALUES, Case, as_lists, seeded, some_document, some_expression, some_question

ALWAYS = (("label", "a"), ("not", 0), ("or", 0, 1))
TWO = (("label", "a"), ("not", 0))


def many_facts(*facts):
    """The facts behind one that is always so, which is number 2, joined by "and" so that all are used."""
    question = list(ALWAYS + facts)
    last = 3
    for number in range(4, 3 + len(facts)):
        question.append(("and", last, number))
        last = len(question) - 1
    return tuple(question)


def counts(question, *, asked=None):
    """(how many inner states, how many top states) the machine has, which is checked."""
    machine = compiled(question) if asked is None else compiled_all(question, asked)
    return machine[3][0], machine[2][0]


class Sizes(Case):
    def test_each_word_alone(self):
        for fact, many in ((("text", "t", 1), 2), (("text", "t", 3), 4), (("text", None, 2), 3), (("child", 0, 1), 2),
                           (("child", 0, 3), 4), (("modulo", 0, 2, 1), 2), (("modulo", 0, 4, 0), 4), (("later", 0, 0), 3),
                           (("next", 0, 0), 3), (("first", 0), 3), (("last", 0), 2), (("inside", 0), 2), (("not", 0), 1),
                           (("and", 0, 0), 1), (("or", 0, 0), 1), (("later", 0, 1), 3), (("next", 0, 1), 3)):
            question = TWO + (fact,)
            named = 1 if fact[0] == "text" else 2
            self.assertEqual(counts(question), (many * named, many), fact)
            self.assertEqual(compiled(question)[0], ("a",) if named == 2 else ())
        self.assertEqual(counts((("label", "a"),)), (2, 1))
        self.assertEqual(counts((("label", "a"), ("label", "b"), ("or", 0, 1))), (3, 1))

    def test_numbers_that_no_row_comes_to(self):
        self.assertEqual(counts((("label", "a"), ("not", 0), ("and", 0, 1), ("child", 2, 3))), (2, 1))
        self.assertEqual(counts(ALWAYS + (("first", 2),)), (4, 2))
        self.assertEqual(counts(ALWAYS + (("first", 2), ("inside", 3))), (6, 3))
        self.assertEqual(counts(ALWAYS + (("later", 2, 2), ("next", 2, 2), ("and", 3, 4))), (6, 3))
        self.assertEqual(counts((("text", "t", 1), ("text", "t", 3), ("and", 0, 1))), (4, 4))
        self.assertEqual(counts((("text", "t", 1), ("text", None, 1), ("and", 0, 1))), (3, 3))

    def test_only_used_facts(self):
        question = (("label", "b"), ("inside", 0), ("text", "t", 2), ("label", "c"), ("text", "u", 3), ("child", 3, 3), ("not", 1))
        machine = compiled_all(question, (1,))
        self.assertEqual((machine[:2], machine[3][0], machine[2][0]), ((("b",), ()), 4, 2))
        machine = compiled_all(question, (2, 6, 0))
        self.assertEqual((machine[:2], machine[3][0], machine[2][0]), ((("b",), ("t",)), 12, 6))
        machine = compiled_all(question, [4, 4])
        self.assertEqual((machine[:2], machine[3][0], machine[2][0]), (((), ("u",)), 4, 4))
        machine = compiled(question)
        self.assertEqual((machine[:2], machine[3][0], machine[2][0]), ((("b",), ()), 4, 2))

    def test_names(self):
        labels = tuple(("label", name) for name in "abcdefg")
        question = labels + (("text", "", 1), ("text", "a", 1), ("text", "b", 1), ("text", "c", 1), ("text", "d", 1))
        self.assertEqual(compiled_all(question, (5, 4, 3, 2, 1, 0, 0, 0))[0], ("a", "b", "c", "d", "e", "f"))
        self.assertFails(Refused, question, compiled_all, question, (0, 1, 2, 3, 4, 5, 6))
        self.assertEqual(compiled_all(question, (7, 10, 9, 8))[1], ("", "a", "b", "c"))
        self.assertFails(Refused, question, compiled_all, question, (7, 8, 9, 10, 11))
        listed = [list(fact) for fact in question]
        self.assertFails(Refused, listed, compiled_all, listed, (7, 8, 9, 10, 11), most=1)
        told = question + (("text", None, 1), ("text", "a", 2), ("label", "a"))
        self.assertEqual(compiled_all(told, (7, 8, 9, 12, 13, 14))[:2], (("a",), ("", "a", "b")))
        last = question + (("or", 0, 1), ("or", 2, 3), ("or", 4, 5), ("or", 12, 13), ("or", 15, 14), ("or", 16, 6))
        self.assertFails(Refused, last, compiled, last)
        self.assertEqual(compiled(last[:-1])[0], ("a", "b", "c", "d", "e", "f"))


class Limits(Case):
    def test_most(self):
        for question, asked, inner in ((TWO + (("child", 0, 3),), (2,), 8), ((("text", None, 2), ("text", "t", 1)), (0, 1), 5),
                                       (many_facts(("child", 2, 3), ("modulo", 0, 3, 1), ("first", 0)), None, None)):
            asked = asked or (len(question) - 1,)
            machine = compiled_all(question, asked)
            most = machine[3][0]
            self.assertEqual(most, inner or most)
            self.assertEqual(compiled_all(question, asked, most=most), machine)
            for less in (most - 1, most // 2, 1):
                self.assertFails(TooGreat, less, compiled_all, question, asked, most=less)
        self.assertFails(TooGreat, 1, compiled, (("label", "a"),), most=1)
        self.assertEqual(compiled((("label", "a"),), most=2)[2][0], 1)

    def test_two_hundred(self):
        question = (("text", None, 3), ("text", "t", 3), ("text", "u", 3), ("text", "v", 3), ("text", "w", 3))
        self.assertFails(TooGreat, 200, compiled_all, question, (0, 1, 2, 3, 4))
        question = many_facts(("modulo", 0, 4, 1), ("modulo", 2, 4, 1), ("modulo", 0, 3, 1), ("last", 0))
        self.assertEqual(counts(question)[0] // 2, counts(question)[1])
        question = many_facts(("modulo", 0, 4, 1), ("modulo", 1, 4, 1), ("modulo", 0, 3, 1), ("modulo", 1, 3, 1))
        self.assertFails(TooGreat, 200, compiled, question)
        question = many_facts(("modulo", 0, 4, 1), ("modulo", 1, 4, 1), ("modulo", 0, 3, 1), ("modulo", 1, 2, 1))
        self.assertEqual(counts(question), (96, 48))

    def test_errors_in_order(self):
        question = (("text", None, 3), ("text", "t", 1))
        self.assertFails(BadQuestion, -1, compiled_all, None, None)
        self.assertFails(BadQuestion, 1, compiled_all, [question[0], None], None, most=1)
        self.assertFails(BadQuestion, -1, compiled, ())
        for asked in (None, 0, (), [], "01", True):
            self.assertFails(Refused, asked, compiled_all, question, asked, most=1)
        for asked, wrong in (((2,), 2), ([0, True], True), ((0,) * 9 + (2,), 2), ((-1,), -1), ((None, 9), None)):
            self.assertFails(NoFact, wrong, compiled_all, question, asked, most=1)
        self.assertFails(Refused, (0,) * 9, compiled_all, question, (0,) * 9, most=1)
        self.assertFails(Refused, [1] * 9, compiled_all, question, [1] * 9)
        self.assertFails(TooGreat, 3, compiled_all, question, (0,) * 8, most=3)
        self.assertEqual(len(compiled_all(question, (0,) * 8)[2][4][0]), 8)

    def test_any_value(self):
        for value in ANY_VALUES:
            self.assertTuples(self.assertOnly((BadQuestion, Refused, TooGreat), compiled, value))
            self.assertOnly((BadQuestion, Refused, NoFact, TooGreat), compiled_all, value, value)
            self.assertOnly((Refused, NoFact), compiled_all, TWO, value)


class Meanings(Case):
    def check_machine_of(self, chance, question, asked):
        try:
            machine = compiled_all(as_lists(question), as_lists(asked))
        except TooGreat:
            return 0
        self.assertEqual(check_machine(machine), machine)
        self.assertTuples(machine)
        self.assertEqual(machine[3][0], machine[2][0] * (len(machine[0]) + 1))
        made = trimmed(machine)
        self.assertEqual((made[3][0], made[2][0]), (machine[3][0], machine[2][0]))
        for _ in range(6):
            document = some_document(chance, 12, 4, ("a", "b", "c"), ("", "t", "u"))
            self.assertEqual(answer(machine, document), meanings(question, asked, document))
        return 1

    def test_many(self):
        chance = seeded(21)
        done = 0
        for _ in range(400):
            question = some_question(chance, chance.randint(1, 8), labels=("a", "b"), texts=("", "t"))
            asked = tuple(chance.randrange(len(question)) for _ in range(chance.randint(1, 3)))
            done += self.check_machine_of(chance, question, asked)
        self.assertGreater(done, 250)

    def test_each_word(self):
        chance = seeded(22)
        for fact in (("text", "t", 1), ("text", "", 2), ("text", "t", 3), ("text", None, 1), ("text", None, 3), ("child", 0, 1),
                     ("child", 1, 2), ("child", 0, 3), ("modulo", 0, 2, 0), ("modulo", 0, 3, 2), ("modulo", 1, 4, 3),
                     ("later", 0, 0), ("later", 0, 1), ("later", 1, 0), ("next", 0, 0), ("next", 0, 1), ("next", 1, 0),
                     ("first", 0), ("first", 1), ("last", 0), ("last", 1), ("inside", 0), ("inside", 1)):
            for more in ((), (("inside", 2), ("not", 3)), (("child", 2, 2), ("or", 3, 0))):
                for _ in range(4):
                    question = TWO + (fact,) + more
                    self.assertEqual(self.check_machine_of(chance, question, (len(question) - 1, 2)), 1)

    def test_all_short_rows(self):
        inner = (("element", "a", ()), ("element", "b", ()), ("text", "t"), ("element", "b", (("element", "a", ()),)))
        rows = [row for many in range(5) for row in itertools.product(inner, repeat=many)]
        question = TWO + (("later", 0, 0), ("later", 0, 1), ("next", 0, 0), ("next", 1, 0), ("next", 1, 1), ("first", 0),
                          ("last", 0), ("inside", 0), ("modulo", 0, 3, 1), ("child", 1, 2), ("text", None, 2))
        for asked in ((2, 3), (4,), (5, 6), (7, 8), (9,), (10,), (11, 12)):
            machine = compiled_all(question, asked)
            for row in rows:
                self.assertEqual(answer(machine, row), meanings(question, asked, row))

    def test_of_expressions(self):
        chance = seeded(23)
        done = 0
        for _ in range(300):
            expression = some_expression(chance, deep=1)
            question = question_of(expression)
            try:
                machine = compiled(question)
            except TooGreat:
                continue
            done += 1
            for _ in range(5):
                document = some_document(chance, 10, 4, ("a", "b", "c"), ("", "t"))
                self.assertEqual(answer(machine, document), (path_holds(expression, document),))
                self.assertEqual(answer(machine, document), (meaning(question, document),))
        self.assertGreater(done, 150)

    def test_great(self):
        forty = many_facts(*[("modulo", 2, 4, number % 4) for number in range(19)])
        self.assertEqual(len(forty), 40)
        self.assertEqual(self.assertWithin(5, compiled, forty)[2][0], 4)
        wide = many_facts(*[("child", 0, 3), ("modulo", 1, 4, 0), ("last", 0), ("first", 0)])
        self.assertEqual(len(self.assertWithin(5, compiled, wide)[2][4]), counts(wide)[1])
        for number in range(12):
            chance = seeded(100 + number)
            question = some_question(chance, 40, labels=("a",), texts=("t",))
            self.assertWithin(5, self.assertOnly, (TooGreat,), compiled_all, question, (39, 38, 37, 36, 35, 34, 33, 32))
        texts = (("text", None, 3), ("text", "t", 3), ("text", "u", 3), ("text", "v", 2), ("child", 0, 2), ("or", 0, 1))
        self.assertWithin(5, self.assertOnly, (TooGreat,), compiled_all, texts, (0, 1, 2, 3, 4))


if __name__ == "__main__":
    unittest.main()
