"""[32] to [34]: stacks that are alike, and endings that part the others."""

import unittest

from stillopen.errors import Refused
from stillopen.likeness import alike, pair_lots, parting, parting_holds
from stillopen.lots import inner_maps, top_maps
from stillopen.stacks import after, after_all, answer_by, stack_of
from stillopen.streams import check_ending, is_ending
from given import (
    ANY_VALUES, HAS, ONE, Case, as_lists, documents_of, endings_of, plain_signs, seeded, some_machine, some_prefix,
)

SIGNS = (("open", "a"), ("open", "b"), ("text", "t"), ("text", "u"), ("close",))
IN_IT = HAS[:3] + ((2, (0, 1)) + HAS[3][2:],)


def some_stacks(many, seed, deep=3, most=3):
    """Machines with two stacks of one depth, whether prefixes lead to them or not."""
    chance = seeded(seed)
    for _ in range(many):
        inner, top = chance.randint(1, most), chance.randint(1, most)
        machine = some_machine(chance, chance.choice(((), ("a",))), chance.choice(((), ("t",))), inner, top)
        depth = chance.randint(0, deep)
        stacks = [(chance.randrange(top),) + tuple(chance.randrange(inner) for _ in range(depth)) for _ in range(2)]
        yield machine, stacks[0], stacks[1]


def beginnings(depth, many):
    """By level, from the innermost out, signs of at most so many that close all within the level, and a forest there."""
    forests = [plain_signs(row) for least in range(many + 1) for row in documents_of(least)]
    told = [forests]
    for level in range(depth):
        told.append([ahead + (("close",),) + forest for ahead in told[-1] for forest in forests
                     if len(ahead) + 1 + len(forest) <= many + level + 1])
    return told


def lots_by_maps(machine, one, other):
    """The lots of pairs, told by all maps that forests make."""
    maps = {True: [made for made, _ in inner_maps(machine)], False: [made for made, _ in top_maps(machine)]}
    pairs, lots = {(one[-1], other[-1])}, []
    for level in reversed(range(len(one))):
        pairs = {(made[state], made[too]) for made in maps[level > 0] for state, too in pairs}
        lots.append(tuple(sorted(pairs)))
        children = machine[3][3] if level > 1 else machine[2][3]
        pairs = {(children[state][one[level - 1]], children[too][other[level - 1]]) for state, too in pairs if level > 0}
    return tuple(lots)


class Likeness(Case):
    def test_told(self):
        self.assertIs(alike(IN_IT, (0,), (0,)), True)
        self.assertIs(alike(IN_IT, (0,), (1,)), False)
        self.assertEqual(pair_lots(IN_IT, (0,), (1,)), (((0, 1), (1, 1)),))
        self.assertEqual(parting(IN_IT, (0,), (1,)), ())
        self.assertIsNone(parting(IN_IT, [0, 1], [1, 0]))
        self.assertIs(parting_holds(IN_IT, (0,), (1,), []), True)
        self.assertIs(parting_holds(IN_IT, (0, 0), (0, 1), [["close"]]), True)
        self.assertIs(parting_holds(IN_IT, (0, 0), (0, 1), (("open", "b"), ("close",), ("close",))), False)
        self.assertIs(parting_holds(IN_IT, (0, 0), (0, 1), ()), False)
        self.assertIs(alike(ONE, (0, 0, 0), (0, 0, 0)), True)

    def test_all_endings(self):
        for machine, one, other in some_stacks(120, 121):
            depth = len(one) - 1
            told = parting(machine, one, other)
            self.assertIs(alike(machine, one, other), told is None)
            self.assertIs(alike(as_lists(machine), list(other), list(one)), told is None)
            last = pair_lots(machine, one, other)[-1]
            answers = machine[2][4]
            self.assertIs(told is None, all(answers[state] == answers[too] for state, too in last))
            many = depth + 5 if told is None else len(told)
            for length in range(depth, many):
                for ending in endings_of(depth, length):
                    self.assertEqual(answer_by(machine, one, ending), answer_by(machine, other, ending))
                    self.assertIs(parting_holds(machine, one, other, ending), False)
            if told is not None:
                self.assertTuples(told)
                self.assertEqual(check_ending(depth, told), told)
                self.assertNotEqual(answer_by(machine, one, told), answer_by(machine, other, told))
                self.assertIs(parting_holds(machine, one, other, as_lists(told)), True)

    def test_lots(self):
        for machine, one, other in some_stacks(80, 122, 2, 2):
            lots = pair_lots(machine, one, other)
            self.assertTuples(lots)
            self.assertEqual(len(lots), len(one))
            for lot, signs in zip(lots, beginnings(len(one) - 1, 4)):
                self.assertEqual(lot, tuple(sorted(set(lot))))
                pairs = {(after_all(machine, one, row)[-1], after_all(machine, other, row)[-1]) for row in signs}
                self.assertLessEqual(pairs, set(lot))
            self.assertEqual(lots, lots_by_maps(machine, one, other))

    def test_signs_ahead(self):
        for machine, one, other in some_stacks(150, 123):
            is_alike = alike(machine, one, other)
            for sign in SIGNS if len(one) > 1 else SIGNS[:-1]:
                behind = alike(machine, after(machine, one, sign), after(machine, other, sign))
                self.assertTrue(behind or not is_alike)

    def test_prefixes(self):
        chance = seeded(124)
        for machine, _, _ in some_stacks(100, 125):
            prefixes = [some_prefix(chance, chance.randint(0, 8)) for _ in range(2)]
            stacks = [stack_of(machine, prefix) for prefix in prefixes]
            if len(stacks[0]) == len(stacks[1]):
                ending = parting(machine, *stacks)
                if ending is not None:
                    told = [stack_of(machine, prefix + ending)[0] for prefix in prefixes]
                    self.assertNotEqual(*[machine[2][4][state] for state in told])
            else:
                self.assertFails(Refused, stacks[1], alike, machine, *stacks)
                depths = [len(stack) - 1 for stack in stacks]
                for ending in endings_of(depths[0], depths[0] + 2):
                    self.assertIs(is_ending(depths[1], ending), False)

    def test_wrong(self):
        calls = (alike, pair_lots, parting, lambda machine, one, other: parting_holds(machine, one, other, None))
        for call in calls:
            self.assertMachineFirst(lambda value: call(value, None, None))
            for stack in ((), None, (2,), (0, 2), (True,), "0", (0, None)):
                self.assertFails(Refused, stack, call, HAS, stack, None)
                self.assertFails(Refused, stack, call, HAS, (0, 1), stack)
            self.assertFails(Refused, (0,), call, HAS, (0, 1), (0,))
            self.assertFails(Refused, [1, 1, 1], call, HAS, (0, 1), [1, 1, 1])
            for value in ANY_VALUES:
                self.assertOnly((Refused,), call, HAS, value, (0, 1))
                self.assertOnly((Refused,), call, HAS, (0, 1), value)

    def test_no_endings(self):
        self.assertIs(parting_holds(IN_IT, (0, 0), (0, 1), (("close",),)), True)
        for value in ANY_VALUES + ((), (("close",), ("close",)), (("open", "a"), ("close",)), [("close",), ("text", 3)]):
            wanted = value == [("close",)]
            self.assertIs(parting_holds(IN_IT, (0, 0), (0, 1), value), wanted, value)

    def test_great(self):
        chance = seeded(126)
        for _ in range(10):
            machine = some_machine(chance, ("a", "b"), ("t", "u"), 4, 4, 8)
            one = tuple(chance.randrange(4) for _ in range(41))
            other = tuple(chance.randrange(4) for _ in range(41))
            self.assertEqual(len(self.assertWithin(5, pair_lots, machine, one, other)), 41)
            told = self.assertWithin(5, parting, machine, one, other)
            self.assertIs(self.assertWithin(5, alike, machine, one, other), told is None)
            self.assertIs(self.assertWithin(5, parting_holds, machine, one, other, told), told is not None)
        # Only what stands right within the innermost element counts: the lots go all the way.
        self.assertEqual(self.assertWithin(5, parting, IN_IT, (0,) * 41, (0,) * 40 + (1,)), (("close",),) * 40)
        flat = (("text", "t"),) * 1960 + (("close",),) * 40
        self.assertIs(self.assertWithin(5, parting_holds, IN_IT, (0,) * 41, (0,) * 40 + (1,), flat), True)


if __name__ == "__main__":
    unittest.main()
