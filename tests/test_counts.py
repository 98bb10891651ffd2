"""[39] to [42]: how many kinds there are, and the machine of least stacks."""

import unittest

from stillopen.compiled import compiled
from stillopen.counts import count, count_matrix, counts_to, stack_machine
from stillopen.errors import Refused, TooGreat
from stillopen.leastmachines import least_machine
from stillopen.leaststacks import least_stacks
from stillopen.likeness import pair_lots
from stillopen.lots import inner_reached
from stillopen.paths import question_of, read_path
from given import ANY_VALUES, HAS, ONE, Case, as_lists, great_machine, seeded, some_machine

IN_IT = HAS[:3] + ((2, (0, 1)) + HAS[3][2:],)
# Of few such machines many lots have to be gone through ahead of the least machine of their stacks.
HARD = (
    ((), ("t", "u"), (3, 1, ((2, 0, 1), (1, 1, 1), (2, 0, 1)), ((0, 2, 2), (2, 0, 1), (2, 2, 0)),
                      ((False, False), (True, False), (False, True))),
     (3, (0,), ((2, 2, 2), (0, 1, 2), (1, 1, 1)), ((2, 2, 2), (0, 1, 2), (1, 1, 1)))),
    (("a", "b"), (), (3, 0, ((1, 2, 0),), ((1, 0, 0), (2, 2, 0), (0, 1, 0)), ((True, True), (False, True), (True, True))),
     (3, (2, 2, 2), ((2, 2, 2),), ((1, 1, 1), (0, 1, 2), (0, 0, 0)))),
)

# One lot of these has no tops, and none behind any one step: only two steps lead on from it to some.
FAR = ((), ("t",), (2, 1, ((0, 1), (1, 1)), ((1, 1), (0, 0), (0, 0)), ((True, True), (False, True))),
       (3, (0,), ((2, 2, 2), (0, 1, 1)), ((1, 1, 1), (2, 2, 1), (0, 0, 0))))


def some_machines(many, seed, inner=3, top=3):
    chance = seeded(seed)
    for _ in range(many):
        yield some_machine(chance, chance.choice(((), ("a",), ("a", "b"))), chance.choice(((), ("t",))),
                           chance.randint(1, inner), chance.randint(1, top), chance.randint(1, 2))


def words_to(words, deep):
    """By depth, ascending, all stacks that a machine of least stacks reads, from the innermost level out."""
    ways, told = [((), 0)], []
    for _ in range(deep + 1):
        told.append(tuple(sorted((top,) + row for row, state in ways for top in words[3][state])))
        ways = [((letter,) + row, behind) for row, state in ways for letter, behind in words[2][state]]
    return told


def all_lots(machine):
    """How many states [41] counts, told by going through stacks, one level more at a time, and all beside each."""
    inner = inner_reached(machine)
    within = {}

    def lot(pairs, state, other):
        """The lot around, told by a stack of two levels for each pair within."""
        key = (pairs, state, other)
        if key not in within:
            if pairs is None:
                within[key] = frozenset(pair_lots(machine, (0, state), (0, other))[0])
            else:
                children = machine[3][3]
                ahead = {(children[one][state], children[two][other]) for one, two in pairs}
                within[key] = frozenset(pair for one, two in ahead for pair in pair_lots(machine, (0, one), (0, two))[0])
        return within[key]

    first = frozenset({(None, 0)})
    found, todo = {first}, [first]
    while todo:
        lots = todo.pop()
        for state in inner:
            behind = frozenset((lot(pairs, state, other), (other > state) - (other < state) or order)
                               for pairs, order in lots for other in inner)
            if behind not in found:
                found.add(behind)
                todo.append(behind)
    return len(found)


class Counts(Case):
    def assertTold(self, machine, words):
        """All that [40] tells of the machine of least stacks, but the words that it reads."""
        many, start, steps, tops = words
        self.assertTuples(words)
        self.assertEqual((start, len(steps), len(tops)), (0, many, many))
        for row in steps:
            self.assertEqual(list(row), sorted(set(row)))
            self.assertEqual(len({letter for letter, _ in row}), len(row))
        for row in tops:
            self.assertEqual(list(row), sorted(set(row)))
        seen = [0]
        for state in range(many):
            for _, behind in steps[state]:
                if behind not in seen:
                    seen.append(behind)
        self.assertEqual(seen, list(range(many)))
        parted = {(one, other) for one in range(many) for other in range(many) if tops[one] != tops[other]}
        while True:
            more = {(one, other) for one in range(many) for other in range(many)
                    if [letter for letter, _ in steps[one]] != [letter for letter, _ in steps[other]]
                    or any((x[1], y[1]) in parted for x, y in zip(steps[one], steps[other]))}
            if more <= parted:
                break
            parted |= more
        self.assertEqual(len(parted), many * (many - 1))
        leading = {state for state in range(many) if tops[state]}
        for _ in range(many):
            leading |= {state for state in range(many) if any(behind in leading for _, behind in steps[state])}
        self.assertEqual(leading, set(range(many)))

    def test_told(self):
        self.assertEqual(stack_machine(ONE, most=2), (1, 0, (((0, 0),),), ((0,),)))
        self.assertEqual(counts_to(ONE, 4, most=2), (1, 1, 1, 1, 1))
        self.assertEqual(count_matrix(ONE, most=2), (((1,),), (1,)))
        self.assertEqual(count(HAS, 0, most=100), 2)
        self.assertEqual(counts_to(as_lists(IN_IT), 0, most=100), (2,))
        # The three questions that the document begins with.
        for text, wanted in (("/a", (2, 2, 2, 2)), ("//a//b", (2, 3, 4, 5)), ("//a/b", (2, 3, 5, 9))):
            machine = least_machine(compiled(question_of(read_path(text))))
            self.assertEqual(counts_to(machine, 3, most=2000), wanted)

    def test_words_are_the_least_stacks(self):
        for machine in [FAR] + list(some_machines(120, 151)):
            words = stack_machine(machine, most=2000)
            self.assertEqual(stack_machine(as_lists(machine), most=2000), words)
            self.assertTold(machine, words)
            for depth, told in enumerate(words_to(words, 7 if machine == FAR else 3)):
                self.assertEqual(told, least_stacks(machine, depth, most=2000))

    def test_counts(self):
        for machine in some_machines(80, 152):
            counts = counts_to(machine, 8, most=2000)
            self.assertTuples(counts)
            for depth in range(4):
                self.assertEqual(counts[depth], len(least_stacks(machine, depth, most=2000)))
                self.assertEqual(count(machine, depth, most=2000), counts[depth])
                self.assertEqual(counts_to(machine, depth, most=2000), counts[:depth + 1])
            matrix, ends = count_matrix(machine, most=2000)
            self.assertTuples((matrix, ends))
            words = stack_machine(machine, most=2000)
            self.assertEqual(ends, tuple(len(row) for row in words[3]))
            self.assertEqual(matrix, tuple(tuple(sum(behind == state for _, behind in row) for state in range(words[0]))
                                           for row in words[2]))
            row = [1] + [0] * (len(matrix) - 1)
            for told in counts:
                self.assertEqual(sum(x * y for x, y in zip(row, ends)), told)
                row = [sum(row[at] * matrix[at][state] for at in range(len(row))) for state in range(len(row))]

    def test_most(self):
        for machine in list(some_machines(60, 153)) + list(HARD):
            need = all_lots(machine)
            told = stack_machine(machine, most=need)
            for call, given in ((stack_machine, ()), (counts_to, (2,)), (count, (2,)), (count_matrix, ())):
                self.assertEqual(call(machine, *given, most=need), call(machine, *given, most=5000))
                if need > 1:
                    self.assertFails(TooGreat, need - 1, call, machine, *given, most=need - 1)
            self.assertLessEqual(told[0], need)

    def test_wrong(self):
        self.assertMachineFirst(lambda value: stack_machine(value, most=1))
        self.assertMachineFirst(lambda value: count_matrix(value, most=1))
        for call in (counts_to, count):
            self.assertMachineFirst(lambda value: call(value, None, most=1))
            for depth in (-1, True, False, None, "1", (1,), [0]):
                self.assertFails(Refused, depth, call, IN_IT, depth, most=1)
            for value in ANY_VALUES:
                if not isinstance(value, int) or value < 300:
                    self.assertOnly((Refused,), call, ONE, value, most=2)
            with self.assertRaises(TypeError):
                call(HAS, 1, 100)

    def test_great(self):
        for machine in HARD:
            self.assertTold(machine, self.assertWithin(5, stack_machine, machine, most=5000))
            self.assertEqual(len(self.assertWithin(5, counts_to, machine, 300, most=5000)), 301)
        chance = seeded(154)
        for _ in range(20):
            machine = some_machine(chance, ("a", "b"), ("t",), 3, 3, 2)
            self.assertWithin(5, count, machine, 300, most=5000)
            self.assertWithin(5, count_matrix, machine, most=5000)
        self.assertEqual(len(counts_to(great_machine(3), 300, most=5000)), 301)


if __name__ == "__main__":
    unittest.main()
