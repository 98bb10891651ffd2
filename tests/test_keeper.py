"""[37], [38]: the keeper."""

import unittest

from stillopen.documents import document_of
from stillopen.errors import BadMachine, BadSign, Refused
from stillopen.keeper import Keeper
from stillopen.leaststacks import kind, least_stacks
from stillopen.machines import answer, check_machine
from given import ANY_VALUES, HAS, NO_MACHINES, ONE, Case, as_lists, seeded, some_machine, some_prefix

OPEN, CLOSE, TEXT = ("open", "a"), ("close",), ("text", "t")


class Keepers(Case):
    def test_told(self):
        keeper = Keeper(as_lists(HAS))
        self.assertEqual((keeper.machine, keeper.stack, keeper.depth(), keeper.word()), (HAS, (0,), 0, (False,)))
        self.assertTuples(keeper.machine)
        self.assertEqual(keeper.read(["open", "a"]), (0, 1))
        self.assertEqual((keeper.stack, keeper.depth(), keeper.word()), ((0, 1), 1, None))
        self.assertEqual(keeper.read_all([["open", "b"], TEXT, CLOSE]), (0, 1))
        self.assertEqual(keeper.read_all(()), (0, 1))
        self.assertEqual(keeper.read_all((CLOSE,)), (1,))
        self.assertEqual((keeper.word(), keeper.depth()), ((True,), 0))

    def test_behind_each_prefix(self):
        chance = seeded(141)
        for _ in range(80):
            machine = some_machine(chance, chance.choice(((), ("a",))), chance.choice(((), ("t",))), chance.randint(1, 4),
                                   chance.randint(1, 4), chance.randint(1, 2))
            prefix = some_prefix(chance, chance.randint(1, 10))
            keeper, whole = Keeper(machine), Keeper(machine)
            by_depth = {}
            for at, sign in enumerate(prefix):
                stack = keeper.read(sign)
                self.assertEqual(stack, kind(machine, prefix[:at + 1]))
                self.assertEqual((keeper.stack, keeper.depth()), (stack, len(stack) - 1))
                by_depth.setdefault(len(stack) - 1, set()).add(stack)
                if len(stack) == 1:
                    self.assertEqual(keeper.word(), answer(machine, document_of(prefix[:at + 1])))
                else:
                    self.assertIsNone(keeper.word())
            for level, stacks in by_depth.items():
                if level < 4:
                    self.assertLessEqual(stacks, set(least_stacks(machine, level, most=2000)))
            self.assertEqual(whole.read_all(as_lists(prefix)), keeper.stack)
            self.assertEqual(keeper.machine, check_machine(machine))

    def test_first(self):
        # The start is alike to a less top state.
        machine = ((), (), (2, 1, ((0, 0),), ((0, 0),), ((True,), (True,))), (1, (0,), ((0,),), ((0,),)))
        self.assertEqual(Keeper(machine).stack, (0,))

    def test_what_is_refused_changes_nothing(self):
        keeper = Keeper(HAS)
        keeper.read(OPEN)
        for at, sign in ((-1, None), (1, ("open", "A")), (1, ("text", 3)), (-1, ("close", 1)), (-1, [])):
            self.assertFails(BadSign, at, keeper.read, sign)
            self.assertFails(BadSign, at, keeper.read_all, (CLOSE, TEXT, sign, None))
            self.assertEqual(keeper.stack, (0, 1))
        self.assertFails(BadSign, 0, keeper.read_all, (CLOSE, CLOSE, None))
        self.assertFails(BadSign, -1, keeper.read_all, (CLOSE, None, CLOSE, CLOSE))
        for signs in (None, 3, "close", True, {}):
            self.assertFails(Refused, signs, keeper.read_all, signs)
        self.assertEqual((keeper.stack, keeper.depth()), ((0, 1), 1))
        keeper.read(CLOSE)
        self.assertFails(BadSign, 0, keeper.read, CLOSE)
        self.assertEqual((keeper.stack, keeper.word()), ((1,), (True,)))

    def test_twin(self):
        keeper = Keeper(HAS)
        keeper.read(OPEN)
        twin = keeper.twin()
        self.assertIsInstance(twin, Keeper)
        self.assertEqual((twin.machine, twin.stack), (keeper.machine, keeper.stack))
        twin.read(CLOSE)
        self.assertEqual((twin.stack, keeper.stack), ((1,), (0, 1)))
        keeper.read(OPEN)
        self.assertEqual((twin.stack, keeper.stack), ((1,), (0, 0, 1)))

    def test_wrong(self):
        for at, value in NO_MACHINES:
            self.assertFails(BadMachine, at, Keeper, value)
        for value in ANY_VALUES:
            self.assertOnly((BadMachine,), Keeper, value)
            keeper = Keeper(ONE)
            self.assertOnly((BadSign,), keeper.read, value)
            self.assertOnly((BadSign, Refused), keeper.read_all, value)

    def test_great(self):
        chance = seeded(142)
        for _ in range(5):
            machine = some_machine(chance, ("a", "b"), ("t", "u"), 4, 6, 8)
            keeper = Keeper(machine)
            signs = (OPEN, TEXT, ("open", "b"), CLOSE) * 8 + ((TEXT,) * 4 + (OPEN, CLOSE)) * 50 + (CLOSE,) * 8
            self.assertEqual(len(self.assertWithin(5, keeper.read_all, signs)), 1)
            self.assertEqual(keeper.word(), answer(machine, document_of(signs)))


if __name__ == "__main__":
    unittest.main()
