"""[50] to [53]: what is sure, since when, of which answers, and how few signs lead there."""

import itertools
import unittest

from stillopen.counts import count
from stillopen.errors import BadStream, Refused, TooGreat
from stillopen.leaststacks import least_stacks
from stillopen.likeness import alike
from stillopen.lots import inner_reached, top_reached
from stillopen.machines import answer
from stillopen.picture import machine_for
from stillopen.stacks import after, stack_of
from stillopen.sure import (
    answers_of, earliest, open_count, shortest_sure, sure, sure_answers, sure_by, sure_table,
)
from given import (
    ANY_VALUES, HAS, ONE, Case, any_machines, any_stack, as_lists, documents_of, endings_plainly, ordered_machine, seeded,
    signs_for, some_machine, some_prefix, some_questions, step_plainly,
)

# Behind a text, and no element, the answer can still turn; behind an element it is sure.
TURNS = ((), (), (3, 0, ((1, 0, 2),), ((2, 2, 2),), ((False,), (True,), (True,))), (1, (0,), ((0,),), ((0,),)))


def plainly(machine, stack):
    """Ascending the answers that endings give a stack; three levels more make all that forests make."""
    return tuple(sorted(endings_plainly(machine, stack, 3)))


class Sure(Case):
    def test_told(self):
        self.assertEqual(answers_of(HAS, (0,)), ((False,), (True,)))
        self.assertEqual((sure(HAS, (1,)), sure(HAS, [0, 1]), sure(HAS, (0, 0))), ((True,), (True,), None))
        self.assertEqual(answers_of(ONE, (0, 0)), ((True,),))
        self.assertEqual(answers_of(TURNS, (0,)), ((False,), (True,)))
        self.assertEqual(sure(TURNS, (0, 0)), (True,))

    def test_all_endings(self):
        chance = seeded(341)
        kinds = set()
        for machine in any_machines(150, 342):
            for deep in range(4):
                stack = any_stack(chance, machine, deep)
                wanted = plainly(machine, stack)
                told = answers_of(machine, stack)
                self.assertEqual(told, wanted)
                self.assertTuples(told)
                self.assertEqual(answers_of(as_lists(machine), list(stack)), wanted)
                self.assertEqual(sure(machine, stack), wanted[0] if len(wanted) == 1 else None)
                kinds.add((deep, len(wanted) == 1))
        self.assertEqual(len(kinds), 8)

    def test_what_is_sure_stays_so(self):
        chance = seeded(343)
        for machine in any_machines(150, 344):
            stack = any_stack(chance, machine, chance.randint(0, 4))
            other = any_stack(chance, machine, len(stack) - 1)
            told = sure(machine, stack)
            if told is not None:
                for sign in signs_for(machine, len(stack) > 1):
                    self.assertEqual(sure(machine, after(machine, stack, sign)), told)
                if sure(machine, other) == told:
                    self.assertTrue(alike(machine, stack, other))
            if alike(machine, stack, other):
                self.assertEqual(answers_of(machine, stack), answers_of(machine, other))

    def test_by_signs(self):
        chance = seeded(345)
        late = 0
        for machine in any_machines(500, 346):
            prefix = some_prefix(chance, chance.randint(0, 9), ("a", "b"), ("t", "u"))
            rows = [sure(machine, stack_of(machine, prefix[:many])) for many in range(len(prefix) + 1)]
            self.assertEqual(sure_by(machine, prefix), tuple(rows))
            self.assertEqual(sure_by(as_lists(machine), as_lists(prefix)), tuple(rows))
            known = [many for many, word in enumerate(rows) if word is not None]
            self.assertEqual(earliest(machine, prefix), (known[0], rows[known[0]]) if known else None)
            late += bool(known) and known[0] > 0
        self.assertGreater(late, 15)
        self.assertEqual(sure_by(HAS, ()), (None,))
        self.assertEqual((earliest(ONE, ()), earliest(HAS, ())), ((0, (True,)), None))
        # Behind a whole stream, too, it can be open: that it is at its end no sign tells.
        self.assertEqual(earliest(HAS, (("open", "b"), ("close",))), None)

    def test_wrong(self):
        for call in (answers_of, sure, sure_by, earliest, sure_answers, shortest_sure):
            self.assertMachineFirst(lambda value: call(value, None))
        self.assertMachineFirst(sure_table)
        self.assertMachineFirst(lambda value: open_count(value, None, most=1))
        for stack in ((), None, (2,), (0, 2), (True,), (0, None), "0", (0, -1), [0, True]):
            for call in (answers_of, sure):
                self.assertFails(Refused, stack, call, HAS, stack)
        for at, prefix in ((-1, None), (0, (("close",),)), (1, (("open", "a"), ("open", "A")))):
            for call in (sure_by, earliest):
                self.assertFails(BadStream, at, call, HAS, prefix)
        for depth in (-1, True, None, "1", (1,)):
            self.assertFails(Refused, depth, sure_answers, HAS, depth)
            self.assertFails(Refused, depth, open_count, HAS, depth, most=1)
        for words in ((), (True, True), (1,), None, True, "True", [None], (True, 1)):
            self.assertFails(Refused, words, shortest_sure, HAS, words)
        with self.assertRaises(TypeError):
            open_count(HAS, 1, 5)
        for value in ANY_VALUES:
            self.assertOnly((Refused,), answers_of, HAS, value)
            self.assertOnly((Refused,), sure, HAS, value)
            self.assertOnly((BadStream,), sure_by, HAS, value)
            self.assertOnly((BadStream,), earliest, HAS, value)
            self.assertOnly((Refused,), sure_answers, HAS, value)
            self.assertOnly((Refused,), shortest_sure, HAS, value)
            if not isinstance(value, int) or value < 9:
                self.assertOnly((Refused,), open_count, HAS, value, most=99)


class ByDepth(Case):
    def test_told(self):
        self.assertEqual(sure_answers(HAS, 0), ((True,),))
        self.assertEqual(sure_table(HAS), ((), (((True,),),)))
        self.assertEqual(sure_table(TURNS), ((), (((True,),),)))
        # It turns at each text: nothing is sure.
        turning = ((), (), (2, 0, ((1, 0),), ((0, 1),), ((False,), (True,))), (1, (0,), ((0,),), ((0,),)))
        self.assertEqual((sure_table(turning), sure_answers(turning, 5)), (((), ((),)), ()))
        self.assertEqual(sure_answers(HAS, 10 ** 6), ((True,),))
        # The first text decides.
        decides = ((), ("t",), (3, 0, ((1, 1, 2), (2, 1, 2)), ((0, 1, 2),), ((False,), (True,), (False,))),
                   (1, (0,), ((0,), (0,)), ((0,),)))
        self.assertEqual(sure_answers(decides, 3), ((False,), (True,)))
        self.assertEqual(open_count(decides, 3, most=9), 1)
        self.assertEqual(shortest_sure(decides, (True,)), (("text", "t"),))

    def test_all_stacks(self):
        seen = set()
        for machine in any_machines(80, 347):
            ahead, again = sure_table(machine)
            self.assertTuples((ahead, again))
            for depth in range(4):
                stacks = itertools.product(top_reached(machine), *[inner_reached(machine)] * depth)
                told = {sure(machine, stack) for stack in stacks} - {None}
                self.assertEqual(sure_answers(machine, depth), tuple(sorted(told)))
                self.assertTuples(sure_answers(machine, depth))
                by_table = ahead[depth] if depth < len(ahead) else again[(depth - len(ahead)) % len(again)]
                self.assertEqual(by_table, tuple(sorted(told)))
                open_many = len([stack for stack in least_stacks(machine, depth, most=2000) if sure(machine, stack) is None])
                self.assertEqual(open_count(machine, depth, most=2000), open_many)
                self.assertEqual(open_many, count(machine, depth, most=2000) - len(told))
                seen.add(len(told))
            # As short as can be.
            self.assertFalse(ahead and ahead[-1] == again[-1])
            for period in range(1, len(again)):
                self.assertNotEqual(again[period:] + again[:period], again)
        self.assertTrue({1, 2} <= seen)

    def test_most(self):
        for machine in any_machines(30, 348):
            told = open_count(machine, 3, most=2000)
            for most in (1, 2, 5):
                again = self.assertOnly((TooGreat,), open_count, machine, 3, most=most)
                self.assertIn(again.most if isinstance(again, TooGreat) else again, (most, told))


class Where(Case):
    def test_told(self):
        self.assertEqual(shortest_sure(HAS, (True,)), (("open", "a"),))
        self.assertIsNone(shortest_sure(HAS, [False]))
        self.assertEqual(shortest_sure(ONE, (True,)), ())
        self.assertIsNone(shortest_sure(ONE, (False,)))
        # An a directly in an a: it is sure as soon as both are open.
        within = machine_for((("label", "a"), ("child", 0, 1), ("and", 0, 1), ("inside", 2)), (3,))
        self.assertEqual(shortest_sure(within, (True,)), (("open", "a"), ("open", "a")))
        # Three texts, and an element that ends ahead of what follows it.
        late = machine_for((("text", "t", 3), ("label", "a"), ("text", None, 2), ("and", 1, 2), ("child", 3, 2),
                            ("and", 0, 4)), (5,))
        told = shortest_sure(late, (True,))
        self.assertEqual((len(told), sure(late, stack_of(late, told))), (10, (True,)))

    def test_fewest_signs(self):
        lengths = set()
        for machine in any_machines(150, 349):
            signs = signs_for(machine)
            for words in itertools.product((False, True), repeat=len(machine[2][4][0])):
                told = shortest_sure(machine, words)
                wanted = self.shortest(machine, words, signs, 5)
                if told is None:
                    self.assertIsNone(wanted)
                    continue
                self.assertEqual(sure(machine, stack_of(machine, told)), words)
                self.assertTuples(told)
                lengths.add(len(told))
                if wanted is not None or len(told) <= 5:
                    self.assertEqual(len(told), wanted)
        self.assertTrue({0, 1, 2} <= lengths)

    def test_questions(self):
        lengths = set()
        for _, _, machine in some_questions(60, 352, 4, 4):
            for words in itertools.product((False, True), repeat=len(machine[2][4][0])):
                told = shortest_sure(machine, words)
                wanted = self.shortest(machine, words, signs_for(machine), 6)
                if told is not None:
                    self.assertEqual(sure(machine, stack_of(machine, told)), words)
                    lengths.add(len(told))
                self.assertEqual(wanted, len(told) if told is not None and len(told) <= 6 else None)
        self.assertTrue({0, 1, 2, 3} <= lengths)

    def shortest(self, machine, words, signs, most):
        """How many signs, at most so many, the shortest prefix has that is sure of an answer."""
        row, seen = [(machine[2][1],)], set()
        for many in range(most + 1):
            news = []
            for stack in row:
                if stack in seen:
                    continue
                seen.add(stack)
                if answers_of(machine, stack) == (words,):
                    return many
                news += [step_plainly(machine, stack, sign) for sign in signs if sign[0] != "close" or len(stack) > 1]
            row = news
        return None

    def test_nobody_can_answer_sooner(self):
        for machine in any_machines(40, 350, 2, 3, 1):
            for many in range(5):
                for document in documents_of(many, ("a",), ("t",)):
                    words = {answer(machine, document)}
                    self.assertLessEqual(words, set(answers_of(machine, (machine[2][1],))))

    def test_great(self):
        chance = seeded(351)
        for make in (some_machine, ordered_machine) * 8:
            machine = make(chance, ("a", "b"), ("t", "u"), 6, 6, 3)
            stack = any_stack(chance, machine, 20)
            self.assertWithin(5, answers_of, machine, stack)
            prefix = some_prefix(chance, 40)
            self.assertWithin(5, sure_by, machine, prefix)
            self.assertWithin(5, earliest, machine, prefix)
            self.assertWithin(5, sure_answers, machine, 10 ** 6)
            self.assertWithin(5, sure_table, machine)
            machine = make(chance, ("a", "b"), ("t", "u"), 4, 4, 3)
            self.assertOnly((TooGreat,), self.assertWithin, 20, open_count, machine, 40, most=2000)
            self.assertWithin(5, shortest_sure, machine, (True, False, True))


if __name__ == "__main__":
    unittest.main()
