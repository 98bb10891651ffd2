"""[22] to [24]: what is alike, the least machine and its numbers."""

import unittest

from stillopen.compiled import compiled
from stillopen.facts import meaning
from stillopen.leastmachines import is_least, least_machine
from stillopen.machines import check_machine, not_of, trimmed, widened
from stillopen.paths import question_of, read_path
from given import (
    HAS, ONE, Case, as_lists, disguised, documents_of, great_machine, read_plainly, seeded, some_document, some_machine,
    some_question,
)

NAMES = ((), ("a",), ("a", "b"), ("b", "c"))
STRINGS = ((), ("t",), ("", "t"))
PATHS = ("//a/b", '//a/"t"', "//a/b/a", '//a[/"t"]/b', "//a//b", "//a[/b{2}]", "//a/b$", "//^a/b+a", "/a[not /b]", '//a/b/"t"')


def parted(machine):
    """(pairs of inner states, pairs of top states) that something around parts, told pair by pair until none is new."""
    _, _, tops, inners = machine
    inner, top = set(), {(p, q) for p in range(tops[0]) for q in range(tops[0]) if tops[4][p] != tops[4][q]}
    while True:
        more = {(p, q) for p in range(tops[0]) for q in range(tops[0])
                if any((row[p], row[q]) in top for row in tops[2] + tops[3])}
        within = {(p, q) for p in range(inners[0]) for q in range(inners[0])
                  if any((row[p], row[q]) in inner for row in inners[2] + inners[3])
                  or any(pair in inner for pair in zip(inners[3][p], inners[3][q]))
                  or any(pair in top for pair in zip(tops[3][p], tops[3][q]))}
        if more <= top and within <= inner:
            return inner, top
        top |= more
        inner |= within


def numbers_of(machine):
    """(the inner states, the top states) in the order that [23] tells, word for word."""
    _, _, tops, inners = machine
    states = list(dict.fromkeys(inners[1]))
    while True:
        at_first = list(states)
        for state in at_first:
            children = list(states)
            for behind in [row[state] for row in inners[2]] + [inners[3][child][state] for child in children]:
                if behind not in states:
                    states.append(behind)
        if states == at_first:
            break
    above = [tops[1]]
    while True:
        at_first = list(above)
        for state in at_first:
            for behind in [row[state] for row in tops[2]] + [tops[3][child][state] for child in states]:
                if behind not in above:
                    above.append(behind)
        if above == at_first:
            return states, above


def some_machines(many, seed):
    """Machines of few states and of all kinds of names."""
    chance = seeded(seed)
    for _ in range(many):
        sizes = chance.randint(1, 4), chance.randint(1, 4)
        yield chance, some_machine(chance, chance.choice(NAMES), chance.choice(STRINGS), *sizes, chance.randint(1, 2))


class LeastMachines(Case):
    def assertLeast(self, machine):
        """All that [24] tells of the one least machine."""
        _, _, tops, inners = machine
        self.assertEqual(numbers_of(machine), (list(range(inners[0])), list(range(tops[0]))))
        inner, top = parted(machine)
        self.assertEqual(len(inner), inners[0] * (inners[0] - 1))
        self.assertEqual(len(top), tops[0] * (tops[0] - 1))
        for start in inners[1][:-1]:
            self.assertNotEqual(start, inners[1][-1])
        for kind in range(len(tops[2]) - 1):
            self.assertTrue(tops[2][kind] != tops[2][-1] or inners[2][kind] != inners[2][-1])
        self.assertEqual(check_machine(machine), machine)
        self.assertTuples(machine)

    def test_told(self):
        least = least_machine(HAS)
        self.assertEqual(least, (("a",), (), (2, 0, ((0, 1),), ((1, 1), (0, 1)), ((False,), (True,))),
                                 (2, (0, 1), ((0, 1),), ((0, 0), (0, 1)))))
        self.assertEqual(least_machine(ONE), ONE)
        self.assertIs(is_least(ONE), True)
        self.assertIs(is_least(HAS), False)
        self.assertIs(is_least(as_lists(least)), True)
        self.assertIs(is_least(not_of(least)), True)
        self.assertIs(is_least(widened(least, ("a", "b"), ())), False)
        self.assertIs(is_least(widened(least, ("a",), ("t",))), False)

    def test_turns(self):
        # Behind the one start 0 a text leads to 2; 2 as a child comes only from the next state on: in the first turn
        # 0 has no child but itself, which leads to 1. So 2 gets the number 1, 1 the number 2, and 3, which 2 as a
        # child makes of 0, is found in the second turn.
        rows = ((1, 0, 1, 3), (0, 1, 2, 3), (3, 3, 0, 3), (3, 3, 3, 3))
        answers = ((False, False), (True, False), (False, True), (True, True))
        machine = ((), (), (4, 0, ((0, 1, 2, 3),), ((0, 2, 2, 3), (1, 2, 3, 3), (2, 3, 0, 1), (3, 0, 1, 2)), answers),
                   (4, (0,), ((2, 1, 3, 3),), rows))
        least = least_machine(machine)
        self.assertEqual(least[3], (4, (0,), ((1, 3, 2, 3),), ((2, 2, 0, 3), (3, 0, 3, 3), (0, 1, 2, 3), (3, 3, 3, 3))))
        self.assertEqual(numbers_of(machine)[0], [0, 2, 1, 3])

    def test_many(self):
        for chance, machine in some_machines(400, 81):
            least = least_machine(machine)
            self.assertLeast(least)
            self.assertEqual(least_machine(least), least)
            self.assertIs(is_least(least), True)
            self.assertIs(is_least(machine), machine == least)
            small = trimmed(machine)
            self.assertLessEqual(least[2][0], small[2][0])
            self.assertLessEqual(least[3][0], small[3][0])
            self.assertLessEqual(set(least[0]), set(machine[0]))
            self.assertLessEqual(set(least[1]), set(machine[1]))
            for _ in range(30):
                document = some_document(chance)
                self.assertEqual(read_plainly(least, document), read_plainly(machine, document))

    def test_all_documents_of_few_signs(self):
        for _, machine in some_machines(40, 82):
            least = least_machine(machine)
            for many in range(6):
                for document in documents_of(many):
                    self.assertEqual(read_plainly(least, document), read_plainly(machine, document))

    def test_the_same_of_all_that_answer_alike(self):
        for chance, machine in some_machines(200, 83):
            inner, top = machine[3][0] + chance.randint(0, 4), machine[2][0] + chance.randint(0, 4)
            other = disguised(chance, machine, inner, top, chance.choice(NAMES), chance.choice(STRINGS))
            self.assertEqual(least_machine(other), least_machine(machine))
            self.assertEqual(least_machine(as_lists(other)), least_machine(machine))

    def test_of_questions(self):
        # Such machines have states that only children within children, or texts within elements, part.
        chance = seeded(87)
        for at in range(150):
            if at < len(PATHS):
                question = question_of(read_path(PATHS[at]))
            else:
                question = some_question(chance, chance.randint(1, 5), ("a", "b"), ("t",))
            machine = compiled(question)
            if machine[2][0] + machine[3][0] > 60:
                continue
            least = least_machine(machine)
            self.assertLeast(least)
            for _ in range(20):
                document = some_document(chance, 8, 4, ("a", "b", "c"), ("t", "u"))
                self.assertEqual(read_plainly(least, document), (meaning(question, document),))

    def test_of_unlike_machines(self):
        lasts = [least_machine(machine) for _, machine in some_machines(300, 84)]
        for one, other in zip(lasts, lasts[1:]):
            told = [read_plainly(one, row) == read_plainly(other, row) for many in range(5) for row in documents_of(many)]
            if one == other:
                self.assertTrue(all(told))

    def test_wrong(self):
        self.assertMachineFirst(least_machine)
        self.assertMachineFirst(is_least)

    def test_great(self):
        for machine in (great_machine(40, 8), disguised(seeded(85), HAS, 40, 40, ("b",), ("t",)), great_machine(40, 1, 1)):
            least = self.assertWithin(5, least_machine, machine)
            self.assertLeast(least)
        # A row of texts that only the longest one behind it parts: each turn parts one state more.
        step = tuple(min(state + 1, 39) for state in range(40))
        same = tuple(range(40))
        answers = tuple((state == 39,) for state in range(40))
        machine = ((), (), (40, 0, (step,), (same,) * 39 + (step,), answers), (40, (0,), (step,), (same,) * 40))
        self.assertEqual(self.assertWithin(5, least_machine, machine)[2][0], 40)
        chance = seeded(86)
        for _ in range(3):
            machine = some_machine(chance, ("a", "b"), ("t",), 40, 40, 1)
            self.assertLeast(self.assertWithin(5, least_machine, machine))


if __name__ == "__main__":
    unittest.main()
