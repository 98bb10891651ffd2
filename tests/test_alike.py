"""[25], [26]: documents of fewest signs of one machine, and of two."""

import unittest

from stillopen.alike import are_alike, least_apart, least_beyond, least_documents, least_with, parts
from stillopen.documents import check_document, signs_of
from stillopen.errors import BadForm, BadMachine, Refused
from stillopen.machines import all_of, any_of, chosen, other_label, other_text
from given import (
    ANY_VALUES, HAS, ONE, Case, as_lists, disguised, documents_of, great_machine, read_plainly, seeded, some_document,
    some_machine, turning_machine,
)

NAMES = ((), ("a",), ("a", "c"))
STRINGS = ((), ("t",), ("", "t"))
MOST = 6
# Of all names in NAMES and STRINGS, and of names that none of these has.
DOCUMENTS = [row for many in range(MOST + 1) for row in documents_of(many)]
TOP = HAS[:2] + (HAS[2], (2, (1, 0), ((0, 1),), ((0, 1), (0, 1))))


def some_pairs(many, seed):
    """Pairs of machines, some of them alike or nearly so."""
    chance = seeded(seed)
    for _ in range(many):
        words = chance.randint(1, 2)
        sizes = chance.randint(1, 3), chance.randint(1, 3)
        machine = some_machine(chance, chance.choice(((), ("a",))), chance.choice(((), ("t",))), *sizes, words)
        other = some_machine(chance, chance.choice(((), ("a",))), chance.choice(((), ("t",))), *sizes[::-1], words)
        if chance.random() < 0.4:
            other = disguised(chance, machine, sizes[0] + 1, sizes[1] + 1, chance.choice(((), ("b",))))
            answers = list(other[2][4])
            if chance.random() < 0.5:
                answers[chance.randrange(len(answers))] = (True,) * words
            other = other[:2] + (other[2][:4] + (tuple(answers),),) + other[3:]
        yield machine, other


def some_machines(many, seed):
    """Machines of few states with one or two words."""
    chance = seeded(seed)
    for _ in range(many):
        yield some_machine(chance, chance.choice(((), ("a",))), chance.choice(((), ("t",))), chance.randint(1, 3),
                           chance.randint(1, 4), chance.randint(1, 2))


class Fewest(Case):
    def assertFewest(self, told, is_wanted):
        """The document told is wanted, and no document of fewer signs is; None: none of few signs is."""
        if told is not None:
            self.assertTrue(is_wanted(told))
            self.assertEqual(check_document(told), told)
        many = MOST + 1 if told is None else len(signs_of(told))
        for document in DOCUMENTS:
            if len(signs_of(document)) >= many:
                break
            self.assertFalse(is_wanted(document), document)


class Documents(Fewest):
    def test_told(self):
        self.assertEqual(least_documents(HAS), {0: (0, ()), 1: (2, (("element", "a", ()),))})
        self.assertEqual(least_with(HAS, 0, False), ())
        self.assertEqual(least_with(ONE, 0, True), ())
        self.assertIsNone(least_with(ONE, 0, False))
        self.assertEqual(least_documents(as_lists(HAS)), least_documents(HAS))

    def test_states(self):
        for machine in some_machines(80, 91):
            told = least_documents(machine)
            self.assertIsInstance(told, dict)
            bits = tuple((state & 1 > 0, state & 2 > 0) for state in range(machine[2][0]))
            by_state = machine[:2] + (machine[2][:4] + (bits,), machine[3])
            reached = {}
            for document in DOCUMENTS:
                one, two = read_plainly(by_state, document)
                reached.setdefault(one + 2 * two, len(signs_of(document)))
            for state, (many, document) in told.items():
                self.assertTuples(document)
                self.assertEqual(len(signs_of(document)), many)
                one, two = read_plainly(by_state, document)
                self.assertEqual(one + 2 * two, state)
                self.assertEqual(reached.get(state, many), many)
            self.assertLessEqual(set(reached), set(told))

    def test_other_names(self):
        machine = (("b",), ("", "a"), (2, 0, ((0, 0), (0, 0), (1, 1)), ((0, 0), (1, 1)), ((False,), (True,))),
                   (2, (0, 1), ((0, 1),) * 3, ((0, 1),) * 2))
        self.assertEqual(least_with(machine, 0, True), (("text", "aa"),))
        machine = machine[:2] + ((2, 0, ((0, 1),) * 3) + machine[2][3:], machine[3])
        self.assertEqual(least_with(machine, 0, True), (("element", "a", ()),))
        self.assertEqual((other_label(machine), other_text(machine)), ("a", "aa"))

    def test_words(self):
        for machine in some_machines(80, 92):
            for place in range(len(machine[2][4][0])):
                for word in (True, False):
                    told = least_with(machine, place, word)
                    self.assertFewest(told, lambda document: read_plainly(machine, document)[place] is word)

    def test_wrong(self):
        self.assertMachineFirst(least_documents)
        self.assertMachineFirst(lambda value: least_with(value, None, None))
        for place in (1, -1, True, False, None, "0", 10 ** 20, (0,)):
            self.assertFails(Refused, place, least_with, HAS, place, None)
        for word in (0, 1, None, "True", (True,)):
            self.assertFails(Refused, word, least_with, HAS, 0, word)
        for value in ANY_VALUES:
            self.assertOnly((Refused,), least_with, HAS, value, True)
            self.assertOnly((Refused,), least_with, HAS, 0, value)

    def test_great(self):
        for machine in (great_machine(40, 8), great_machine(40, 2, 1)):
            told = self.assertWithin(5, least_documents, machine)
            self.assertEqual(len(told), 40)
            self.assertIsNotNone(self.assertWithin(5, least_with, machine, 1, True))
        # Elements within one another, each state from the next one: the least document of the last has many signs.
        many = 40
        rows = tuple(tuple(child + 1 if child == state and child < many - 1 else 0 for state in range(many))
                     for child in range(many))
        same = tuple(range(many))
        answers = tuple((state == 9,) for state in range(many))
        machine = ((), (), (many, 0, (same,), tuple((child,) * many for child in range(many)), answers),
                   (many, (0,), (same,), rows))
        told = self.assertWithin(5, least_with, machine, 0, True)
        self.assertEqual(len(signs_of(told)), 2 ** 10)
        chance = seeded(93)
        for _ in range(3):
            machine = some_machine(chance, ("a", "b"), ("t",), 40, 40, 8)
            self.assertWithin(5, least_documents, machine)


class TwoMachines(Fewest):
    def test_told(self):
        self.assertEqual(len(signs_of(least_apart(HAS, TOP))), 4)
        self.assertIsNone(least_beyond(TOP, HAS))
        self.assertEqual(least_beyond(HAS, TOP), least_apart(TOP, HAS))
        self.assertIs(are_alike(HAS, TOP), False)
        self.assertIs(are_alike(HAS, as_lists(HAS)), True)
        self.assertIs(parts(HAS, TOP, least_apart(HAS, TOP)), True)
        self.assertIs(parts(HAS, TOP, ()), False)

    def test_many(self):
        apart = 0
        for machine, other in some_pairs(120, 94):
            told = least_apart(machine, other)
            self.assertTuples(told)
            self.assertFewest(told, lambda document: read_plainly(machine, document) != read_plainly(other, document))
            self.assertIs(are_alike(machine, other), told is None)
            apart += told is None
            self.assertFewest(
                least_beyond(machine, other),
                lambda row: any(x and not y for x, y in zip(read_plainly(machine, row), read_plainly(other, row))))
        self.assertGreater(apart, 10)
        self.assertLess(apart, 110)

    def test_parts(self):
        chance = seeded(95)
        for machine, other in some_pairs(40, 96):
            for _ in range(10):
                document = some_document(chance)
                unlike = read_plainly(machine, document) != read_plainly(other, document)
                self.assertIs(parts(machine, other, document), unlike)
                self.assertIs(parts(as_lists(machine), as_lists(other), as_lists(document)), unlike)
        self.assertIs(parts(HAS, chosen(HAS, (0, 0)), ()), True)
        self.assertFails(BadForm, 0, parts, HAS, ONE, (None,))
        self.assertMachineFirst(lambda value: parts(value, None, None))
        self.assertMachineFirst(lambda value: parts(HAS, value, None))
        for value in ANY_VALUES:
            self.assertOnly((BadForm,), parts, HAS, ONE, value)

    def test_wrong(self):
        seven = ("a", "b", "c", "d", "e", "f")
        for call in (least_apart, are_alike, least_beyond):
            self.assertMachineFirst(lambda value: call(value, None))
            self.assertMachineFirst(lambda value: call(HAS, value))
            two = chosen(HAS, (0, 0))
            self.assertFails(Refused, two, call, HAS, two)
            one = some_machine(seeded(97), seven, (), 1, 1, 2)
            self.assertFails(Refused, HAS, call, one, HAS)
            # Unlike lengths go ahead of names that are too many.
            more = some_machine(seeded(97), ("g",), ("x",), 1, 1, 1)
            self.assertFails(Refused, more, call, one, more)
            self.assertFails(Refused, seven + ("g",), call, all_of(one), more)
            texts = some_machine(seeded(97), (), ("a", "b", "c", "d"), 1, 1, 1)
            self.assertFails(Refused, ("a", "b", "c", "d", "x"), call, texts, more)
            self.assertFails(BadMachine, 2, call, chosen(HAS, (0,) * 5), chosen(TOP, (0,) * 5))
            great, other = turning_machine(20), turning_machine(21)
            self.assertFails(BadMachine, 3, call, great, other)
            for value in ANY_VALUES:
                self.assertOnly((BadMachine, Refused), call, HAS, value)

    def test_great(self):
        chance = seeded(98)
        for _ in range(6):
            machine = some_machine(chance, ("a", "b", "c"), ("t", "u"), 12, 12, 4)
            other = disguised(chance, machine, 12, 12, ("d", "e", "f"), ("v",))
            self.assertTrue(self.assertWithin(5, are_alike, machine, other))
            self.assertIsNone(self.assertWithin(5, least_beyond, machine, other))
            other = some_machine(chance, ("a", "b", "c"), ("t", "u"), 12, 12, 4)
            self.assertIsNotNone(self.assertWithin(5, least_apart, machine, other))
            self.assertIs(self.assertWithin(5, are_alike, any_of(machine), any_of(great_machine(12))), False)


if __name__ == "__main__":
    unittest.main()
