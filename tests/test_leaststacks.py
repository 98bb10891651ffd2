"""[35], [36]: the least stack of each kind."""

import itertools
import unittest

from stillopen.errors import BadStream, Refused, TooGreat
from stillopen.leaststacks import kind, least, least_stacks
from stillopen.likeness import alike
from stillopen.lots import inner_reached, top_reached
from stillopen.stacks import after, answer_by, stack_of
from given import (
    ANY_VALUES, HAS, ONE, Case, as_lists, endings_of, great_machine, seeded, some_machine, some_prefix,
)

SIGNS = (("open", "a"), ("open", "b"), ("text", "t"), ("text", "u"), ("close",))
# Inner state 0, top state 0 are not come to.
LOST = (("a",), (), (3, 1, ((0, 1, 2),), ((0, 1, 2), (0, 1, 2), (0, 2, 1)), ((True,), (False,), (True,))),
        (3, (1, 2), ((0, 1, 2),), ((0, 1, 2), (1, 1, 2), (2, 2, 2))))


def some_machines(many, seed, inner=3, top=3):
    chance = seeded(seed)
    for _ in range(many):
        yield some_machine(chance, chance.choice(((), ("a",), ("a", "b"))), chance.choice(((), ("t",))),
                           chance.randint(1, inner), chance.randint(1, top), chance.randint(1, 2))


def stacks_of(machine, depth):
    """Ascending all stacks of a depth of states that are come to."""
    return list(itertools.product(top_reached(machine), *[inner_reached(machine)] * depth))


def kinds_of(machine, depth):
    """By stack the least one of its kind, told by trying each."""
    told = {}
    for stack in stacks_of(machine, depth):
        found = [other for other in dict.fromkeys(told.values()) if alike(machine, other, stack)]
        told[stack] = found[0] if found else stack
    return told


class LeastStacks(Case):
    def test_told(self):
        self.assertEqual(least_stacks(HAS, 0, most=1), ((0,), (1,)))
        self.assertEqual(least_stacks(HAS, 3, most=4), ((0, 0, 0, 0), (0, 0, 0, 1)))
        self.assertEqual(least(HAS, [1, 1, 1]), (0, 0, 1))
        self.assertTuples(least(HAS, [1, 1, 1]))
        self.assertEqual(kind(HAS, [["open", "b"], ["open", "a"]]), (0, 0, 1))
        self.assertEqual(kind(HAS, ()), (0,))
        self.assertEqual(least_stacks(ONE, 40, most=1), ((0,) * 41,))
        self.assertEqual(least(LOST, (2, 1)), (2, 1))
        self.assertEqual(least_stacks(LOST, 1, most=4), ((1, 1), (1, 2), (2, 1), (2, 2)))

    def test_all_stacks(self):
        for machine in some_machines(60, 131):
            for depth in range(4):
                told = kinds_of(machine, depth)
                for stack, wanted in told.items():
                    self.assertEqual(least(machine, stack), wanted)
                all_least = least_stacks(machine, depth, most=2000)
                self.assertTuples(all_least)
                self.assertEqual(all_least, tuple(sorted(set(told.values()))))
                self.assertEqual(least_stacks(as_lists(machine), depth, most=2000), all_least)

    def test_endings(self):
        for machine in some_machines(40, 132, 2, 3):
            for depth in range(3):
                endings = [ending for many in range(depth, depth + 4) for ending in endings_of(depth, many)]
                told = {}
                for stack in stacks_of(machine, depth):
                    answers = tuple(answer_by(machine, stack, ending) for ending in endings)
                    self.assertEqual(answers, told.setdefault(least(machine, stack), answers))

    def test_behind_signs(self):
        chance = seeded(133)
        for machine in some_machines(80, 134):
            prefix = some_prefix(chance, chance.randint(0, 8))
            stack = stack_of(machine, prefix)
            self.assertEqual(kind(machine, prefix), least(machine, stack))
            self.assertEqual(kind(as_lists(machine), as_lists(prefix)), least(machine, stack))
            small = least(machine, stack)
            self.assertEqual(least(machine, small), small)
            for sign in SIGNS if len(stack) > 1 else SIGNS[:-1]:
                self.assertEqual(least(machine, after(machine, small, sign)), kind(machine, prefix + (sign,)))

    def test_most(self):
        for machine in some_machines(60, 135):
            many = len(inner_reached(machine))
            for depth in range(4):
                need = max([len(least_stacks(machine, level, most=2000)) * many for level in range(depth)], default=0)
                told = least_stacks(machine, depth, most=2000)
                self.assertEqual(least_stacks(machine, depth, most=max(need, 1)), told)
                if need > 1:
                    self.assertFails(TooGreat, need - 1, least_stacks, machine, depth, most=need - 1)

    def test_wrong(self):
        self.assertMachineFirst(lambda value: least(value, None))
        self.assertMachineFirst(lambda value: kind(value, None))
        self.assertMachineFirst(lambda value: least_stacks(value, None, most=1))
        for stack in ((0,), (1, 0), (2, 0, 1), (1, 1, 0), (0, 1), (), None, (3,), (1, 3), (True,), "1", (1, None), [0, 1]):
            self.assertFails(Refused, stack, least, LOST, stack)
        for depth in (-1, True, False, None, "1", (1,)):
            self.assertFails(Refused, depth, least_stacks, HAS, depth, most=1)
        for at, prefix in ((-1, None), (0, (("close",),)), (1, (("open", "a"), ("open", "A")))):
            self.assertFails(BadStream, at, kind, HAS, prefix)
        for value in ANY_VALUES:
            self.assertOnly((Refused,), least, LOST, value)
            self.assertOnly((BadStream,), kind, LOST, value)
            if not isinstance(value, int) or value < 9:
                self.assertOnly((Refused,), least_stacks, ONE, value, most=1)
        with self.assertRaises(TypeError):
            least_stacks(HAS, 1, 5)
        with self.assertRaises(TypeError):
            least_stacks(HAS, 1)

    def test_great(self):
        chance = seeded(136)
        for _ in range(12):
            machine = some_machine(chance, ("a", "b"), ("t", "u"), 4, 6, chance.choice((1, 2, 8)))
            stack = (top_reached(machine)[-1],) + tuple(chance.choice(inner_reached(machine)) for _ in range(8))
            small = self.assertWithin(5, least, machine, stack)
            self.assertLessEqual(small, stack)
            self.assertTrue(alike(machine, small, stack))
            self.assertWithin(5, least_stacks, machine, 4, most=2000)
        # Texts and elements change nothing but what stands beside them, and each state is parted from each.
        same, six = (0, 1, 2, 3), tuple(range(6))
        rows = tuple(tuple((child + state) % 6 for state in six) for child in range(4))
        answers = tuple((state & 1 > 0, state & 2 > 0, state & 4 > 0) for state in six)
        turns = tuple(tuple((child + state) % 4 for state in range(4)) for child in range(4))
        machine = ("a", "b", "c"), (), (6, 0, (six,), rows, answers), (4, same, (same,), turns)
        self.assertLess(len(self.assertWithin(5, least_stacks, machine, 4, most=2000)), 1537)
        self.assertEqual(least_stacks(machine, 0, most=1), tuple((state,) for state in six))
        self.assertEqual(len(self.assertWithin(5, least, great_machine(4), (3,) * 9)), 9)


if __name__ == "__main__":
    unittest.main()
