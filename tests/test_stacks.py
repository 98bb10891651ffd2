"""[30], [31]: stacks, and the answers of endings."""

import unittest

from stillopen.documents import document_of
from stillopen.errors import BadSign, BadStream, Refused
from stillopen.machines import answer
from stillopen.stacks import after, after_all, answer_by, check_stack, first_stack, stack_of
from stillopen.streams import closing
from given import (
    ANY_VALUES, HAS, ONE, Case, as_lists, endings_of, great_machine, nested, seeded, some_machine, some_prefix,
)

OPEN, CLOSE, TEXT = ("open", "a"), ("close",), ("text", "t")
NO_STACKS = (None, 3, True, "01", (), [], (2,), (-1,), (True,), (None,), ("0",), (0, 2), (0, -1), (0, True), (0, 0, None),
             ((0,),), (0, (0,)), {}, 10 ** 20)
NO_SIGNS = ((-1, None), (-1, ("open",)), (-1, ()), (1, ("open", "A")), (1, ["text", 3]), (-1, ("close", 1)), (-1, "close"))


class Stacks(Case):
    def test_told(self):
        self.assertEqual(check_stack(HAS, [1, 0, 1]), (1, 0, 1))
        self.assertTuples(check_stack(HAS, [1, 0, 1]))
        self.assertEqual(first_stack(HAS), (0,))
        self.assertEqual(after(HAS, (0,), ["open", "a"]), (0, 1))
        self.assertEqual(after(HAS, [0, 1], CLOSE), (1,))
        self.assertEqual(after(HAS, (0, 0, 1), CLOSE), (0, 1))
        self.assertEqual(after_all(HAS, (0, 0), (OPEN, TEXT, CLOSE, CLOSE)), (1,))
        self.assertEqual(after_all(HAS, (1,), []), (1,))
        self.assertEqual(stack_of(HAS, ()), (0,))
        self.assertEqual(stack_of(HAS, [OPEN, ["open", "b"]]), (0, 1, 0))
        self.assertEqual(answer_by(HAS, (1,), ()), (True,))
        self.assertEqual(answer_by(HAS, (0, 0), (CLOSE, OPEN, CLOSE)), (True,))
        # A stack that no prefix leads to.
        self.assertEqual(after((HAS[:2] + ((2, 1) + HAS[2][2:], HAS[3])), (0, 1), TEXT), (0, 1))

    def test_sign_by_sign(self):
        chance = seeded(111)
        for _ in range(150):
            machine = some_machine(chance, chance.choice(((), ("a",), ("a", "b"))), chance.choice(((), ("t",))), 3, 3)
            prefix = some_prefix(chance, chance.randint(0, 14))
            stack = first_stack(machine)
            for at, sign in enumerate(prefix):
                stack = after(machine, stack, sign)
                self.assertEqual(stack, stack_of(machine, prefix[:at + 1]))
                self.assertEqual(check_stack(machine, stack), stack)
                self.assertEqual(after_all(as_lists(machine), list(stack), as_lists(prefix[at + 1:])), stack_of(machine, prefix))
            ahead = chance.randint(0, len(prefix))
            self.assertEqual(after_all(machine, stack_of(machine, prefix[:ahead]), prefix[ahead:]), stack)
            deep = len(stack) - 1
            for many in range(deep, deep + 3):
                for ending in endings_of(deep, many)[:40]:
                    told = answer(machine, document_of(prefix + ending))
                    self.assertEqual(answer_by(machine, stack, ending), told)
                    self.assertEqual(answer_by(machine, list(stack), as_lists(ending)), told)

    def test_wrong_stacks(self):
        calls = (
            lambda machine, stack: check_stack(machine, stack), lambda machine, stack: after(machine, stack, None),
            lambda machine, stack: after_all(machine, stack, None), lambda machine, stack: answer_by(machine, stack, None),
        )
        for call in calls:
            self.assertMachineFirst(lambda value: call(value, None))
            for stack in NO_STACKS:
                self.assertFails(Refused, stack, call, HAS, stack)
            for value in ANY_VALUES:
                self.assertOnly((Refused, BadSign, BadStream), call, HAS, value)
        self.assertMachineFirst(first_stack)
        self.assertMachineFirst(lambda value: stack_of(value, None))
        self.assertFails(Refused, (0, 1), check_stack, ONE, (0, 1))

    def test_unlike_counts_of_states(self):
        for inner, top in ((2, 3), (3, 2)):
            machine = some_machine(seeded(113), ("a",), (), inner, top)
            for stack in ((top - 1,), (top - 1, inner - 1), (0, inner - 1, 0, inner - 1)):
                self.assertEqual(check_stack(machine, stack), stack)
            for stack in ((top,), (top, 0), (0, inner), (0, 0, inner), (0, inner, 0)):
                self.assertFails(Refused, stack, check_stack, machine, stack)

    def test_wrong_signs(self):
        for at, sign in NO_SIGNS:
            self.assertFails(BadSign, at, after, HAS, (0,), sign)
            self.assertFails(BadSign, at, after, HAS, (0, 1), sign)
            self.assertFails(BadStream, 1, after_all, HAS, (0, 1), (CLOSE, sign))
            self.assertFails(BadStream, 2, stack_of, HAS, (OPEN, CLOSE, sign))
        self.assertFails(BadSign, 0, after, HAS, (0,), CLOSE)
        self.assertFails(BadStream, 0, stack_of, HAS, (CLOSE,))
        self.assertFails(BadStream, 2, after_all, HAS, (0, 1), (TEXT, CLOSE, CLOSE))
        self.assertFails(BadStream, -1, after_all, HAS, (0, 1), None)
        self.assertFails(BadStream, -1, stack_of, HAS, "close")
        for value in ANY_VALUES:
            self.assertOnly((BadSign,), after, HAS, (0, 1), value)
            self.assertOnly((BadStream,), after_all, HAS, (0, 1), value)
            self.assertOnly((BadStream,), stack_of, HAS, value)
            self.assertOnly((BadStream,), answer_by, HAS, (0, 1), value)

    def test_endings_that_are_none(self):
        for stack, at, ending in (
            ((0,), 0, (CLOSE,)), ((0, 1), 0, ()), ((0, 1), 1, (CLOSE, CLOSE)), ((0, 1), 2, (OPEN, CLOSE)),
            ((0, 1, 1), 1, (CLOSE,)), ((0,), 1, (OPEN,)), ((0,), -1, None), ((0, 1), 0, (None, CLOSE)),
            ((0, 1), 1, (CLOSE, ("open", "A"))), ((0,), 1, (TEXT, CLOSE, OPEN)),
        ):
            self.assertFails(BadStream, at, answer_by, HAS, stack, ending)

    def test_great(self):
        chance = seeded(112)
        machine = some_machine(chance, ("a", "b"), ("t",), 4, 4, 8)
        prefix = (OPEN,) * 2000
        self.assertEqual(len(self.assertWithin(5, stack_of, machine, prefix)), 2001)
        flat = (OPEN, TEXT, CLOSE, TEXT) * 500
        self.assertEqual(self.assertWithin(5, after_all, machine, (0,) * 41, flat)[:40], (0,) * 40)
        self.assertEqual(len(self.assertWithin(5, answer_by, machine, (0,) * 41, closing(40))), 8)
        self.assertEqual(self.assertWithin(5, stack_of, great_machine(200), flat), (stack_of(great_machine(200), flat)[0],))
        self.assertFails(Refused, nested(0, 40), check_stack, machine, nested(0, 40))


if __name__ == "__main__":
    unittest.main()
