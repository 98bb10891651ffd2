"""[60] to [62]: endings of each answer, papers that tell why, and the turn."""

import itertools
import unittest

from stillopen.errors import BadStream, Refused
from stillopen.lots import inner_reached
from stillopen.reasons import ending_to, endings, turning, why, why_holds
from stillopen.stacks import answer_by, stack_of
from stillopen.streams import check_ending
from stillopen.sure import answers_of, earliest, sure
from given import (
    ANY_VALUES, HAS, ONE, Case, any_machines, any_stack, as_lists, endings_of, endings_plainly, ordered_machine, seeded,
    some_machine, some_prefix,
)

OPEN, CLOSE, TEXT = ("open", "a"), ("close",), ("text", "t")


def numbers(value):
    return isinstance(value, (list, tuple)) and all(isinstance(one, int) and not isinstance(one, bool) for one in value)


def holds_plainly(machine, stack, value):
    """Whether a value of the form of a paper of what is sure is one, told straight from [61]."""
    _, _, tops, inners = machine
    _, words, ends, lots = value
    if any(not numbers(row) or list(row) != sorted(set(row)) or any(one < 0 for one in row) for row in (ends,) + tuple(lots)):
        return False
    if any(state >= inners[0] for row in (ends,) + tuple(lots[:-1]) for state in row):
        return False
    if len(lots) != len(stack) or any(state >= tops[0] for state in lots[-1]):
        return False

    def all_behind(part, states):
        return {row[state] for row in part[2] for state in states} | {part[3][end][state] for end in ends for state in states}

    if not set(inners[1]) <= set(ends) or not all_behind(inners, ends) <= set(ends):
        return False
    for at, lot in enumerate(lots):
        level = len(stack) - 1 - at
        part = inners if level > 0 else tops
        first = {stack[-1]} if at == 0 else {part[3][end][stack[level]] for end in lots[at - 1]}
        if not first <= set(lot) or not all_behind(part, lot) <= set(lot):
            return False
    return all(tops[4][state] == tuple(words) for state in lots[-1])


class Endings(Case):
    def test_told(self):
        self.assertEqual(endings(HAS, (0,)), (((False,), ()), ((True,), ending_to(HAS, (0,), (True,)))))
        self.assertEqual(ending_to(HAS, [0, 0], [False]), (CLOSE,))
        self.assertEqual(len(ending_to(HAS, (0, 0), (True,))), 3)
        self.assertIsNone(ending_to(HAS, (0, 1), (False,)))
        self.assertEqual(endings(ONE, (0, 0, 0)), (((True,), (CLOSE, CLOSE)),))

    def test_fewest_signs(self):
        chance = seeded(401)
        lengths = set()
        for machine in any_machines(150, 402):
            for deep in range(4):
                stack = any_stack(chance, machine, deep)
                wanted = endings_plainly(machine, stack, 3)
                told = endings(machine, stack)
                self.assertTuples(told)
                self.assertEqual(endings(as_lists(machine), list(stack)), told)
                self.assertEqual([one for one, _ in told], list(answers_of(machine, stack)))
                for one, signs in told:
                    self.assertEqual(check_ending(deep, signs), signs)
                    self.assertEqual(answer_by(machine, stack, signs), one)
                    self.assertEqual(len(signs), wanted[one])
                    lengths.add(len(signs) - deep)
                for words in itertools.product((False, True), repeat=len(machine[2][4][0])):
                    signs = ending_to(machine, stack, list(words))
                    self.assertEqual(signs, dict(told).get(words))
        self.assertTrue({0, 1, 2} <= lengths)

    def test_wrong(self):
        for call in (endings, why, turning):
            self.assertMachineFirst(lambda value: call(value, None))
        for call in (ending_to, why_holds):
            self.assertMachineFirst(lambda value: call(value, None, None))
        for stack in ((), None, (2,), (0, 2), (True,), "0"):
            for call in (endings, why):
                self.assertFails(Refused, stack, call, HAS, stack)
            for call in (ending_to, why_holds):
                self.assertFails(Refused, stack, call, HAS, stack, None)
        for words in ((), (True, True), (1,), None, True, "True", [None], (0,)):
            self.assertFails(Refused, words, ending_to, HAS, (0, 0), words)
        for at, prefix in ((-1, None), (0, (CLOSE,)), (1, (OPEN, ("open", "A")))):
            self.assertFails(BadStream, at, turning, HAS, prefix)
        for value in ANY_VALUES:
            self.assertOnly((Refused,), endings, HAS, value)
            self.assertOnly((Refused,), why, HAS, value)
            self.assertOnly((Refused,), ending_to, HAS, value, value)
            self.assertOnly((Refused,), ending_to, HAS, (0, 0), value)
            self.assertOnly((Refused,), why_holds, HAS, value, value)
            self.assertIs(why_holds(HAS, (0, 0), value), False)
            self.assertOnly((BadStream,), turning, HAS, value)
            # Such a value at each place of a paper.
            for paper in (why(HAS, (0, 0)), why(HAS, (0, 1))):
                for at in range(len(paper)):
                    self.assertIn(why_holds(HAS, (0, 0), paper[:at] + (value,) + paper[at + 1:]), (True, False))
                    self.assertIn(why_holds(HAS, (0, 1), paper[:at] + (value,) + paper[at + 1:]), (True, False))


class Why(Case):
    def test_told(self):
        self.assertEqual(why(HAS, (0, 1)), ("sure", (True,), (0, 1), ((1,), (1,))))
        self.assertEqual(why(HAS, (0,))[:2], ("open", ((False,), ())))
        self.assertTrue(why_holds(HAS, (0, 1), ["sure", [True], [0, 1], [[0, 1], [1]]]) is False)
        self.assertTrue(why_holds(HAS, (1, 0), ["sure", [True], [0, 1], [[0, 1], [1]]]))
        self.assertTrue(why_holds(HAS, (1, 0), why(HAS, (1, 0))))

    def test_all_stacks(self):
        chance = seeded(403)
        seen = {"open": 0, "sure": 0}
        for machine in any_machines(150, 404):
            for deep in range(4):
                stack = any_stack(chance, machine, deep)
                told = why(machine, stack)
                seen[told[0]] += 1
                self.assertTuples(told)
                self.assertTrue(why_holds(machine, stack, told))
                self.assertTrue(why_holds(as_lists(machine), list(stack), as_lists(told)))
                if sure(machine, stack) is None:
                    rows = sorted(endings(machine, stack), key=lambda row: (len(row[1]), row[0]))
                    self.assertEqual(told, ("open", rows[0], rows[1]))
                else:
                    self.assertEqual(told[:3], ("sure", sure(machine, stack), inner_reached(machine)))
                    for at, lot in enumerate(told[3][:-1]):
                        self.assertEqual(self.ends_of(machine, stack[deep - at:]), lot)
        self.assertGreater(min(seen.values()), 80)

    def ends_of(self, machine, states):
        """Ascending the states in which the first of these inner levels can end, told by endings of those within it."""
        many, _, texts, children = machine[3]
        # The same row as a top row, each state of which has an answer of its own.
        answers = tuple(tuple(state == one for one in range(many)) for state in range(many))
        found = answers_of(machine[:2] + ((many, 0, texts, children, answers),) + machine[3:], states)
        return tuple(sorted(one.index(True) for one in found))

    def test_bent_papers(self):
        chance = seeded(405)
        told = {True: 0, False: 0}
        for machine in any_machines(200, 406):
            stack = any_stack(chance, machine, chance.randint(0, 3))
            inner, top = machine[3][0], machine[2][0]
            for _ in range(20):
                word = chance.choice(machine[2][4])

                def row(many, base):
                    more = [state for state in range(many) if state in base or chance.random() < 0.3]
                    if chance.random() < 0.1 and more:
                        more[chance.randrange(len(more))] = chance.choice((0, many - 1, many, -1))
                    return tuple(more)

                own = why(machine, stack)
                ends = row(inner, inner_reached(machine))
                lots = own[3] if own[0] == "sure" else tuple((state,) for state in reversed(stack))
                lots = tuple(row(top if at == len(stack) - 1 else inner, lot) for at, lot in enumerate(lots))
                value = ("sure", word, ends, lots)
                wanted = holds_plainly(machine, stack, value)
                self.assertEqual(why_holds(machine, stack, value), wanted)
                self.assertEqual(why_holds(machine, stack, as_lists(value)), wanted)
                told[wanted] += 1
                if wanted:
                    self.assertEqual(sure(machine, stack), word)
        self.assertGreater(min(told.values()), 300)

    def test_open_papers(self):
        chance = seeded(407)
        for machine in any_machines(80, 408):
            stack = any_stack(chance, machine, chance.randint(0, 2))
            deep = len(stack) - 1
            row = [ending for many in range(deep, deep + 4) for ending in endings_of(deep, many, ("a", "b"), ("t",))]
            pairs = [(answer_by(machine, stack, ending), ending) for ending in row]
            for _ in range(20):
                one, other = chance.choice(pairs), chance.choice(pairs)
                self.assertEqual(why_holds(machine, stack, ("open", one, other)), one[0] != other[0])
                flipped = tuple(not word for word in one[0])
                self.assertFalse(why_holds(machine, stack, ("open", (flipped, one[1]), other)))
                self.assertFalse(why_holds(machine, stack, ("open", (one[0], one[1] + (CLOSE,)), other)))
            if sure(machine, stack) is not None:
                self.assertEqual({one for one, _ in pairs}, {sure(machine, stack)})

    def test_no_papers(self):
        paper, other = why(HAS, (0, 0)), why(HAS, (0, 1))
        self.assertFalse(why_holds(HAS, (0, 1), paper))
        self.assertFalse(why_holds(HAS, (0, 0), other))
        for value in (paper[1:], paper + ((),), ("sure",) + paper[1:], ("open", paper[1], paper[1]), ("open", paper[1], ()),
                      ("open", (paper[1][0],), paper[2]), ("open", ((0,), paper[1][1]), paper[2])):
            self.assertIs(why_holds(HAS, (0, 0), value), False)
        good = ("sure", (True,), (0, 1), ((1,), (1,)))
        self.assertTrue(why_holds(HAS, (0, 1), good))
        for value in (good[1:], good + ((),), ("open",) + good[1:], ("sure", (False,)) + good[2:], ("sure", True) + good[2:],
                      ("sure", (1,)) + good[2:], ("sure", (True, True)) + good[2:], good[:2] + ((0,),) + good[3:],
                      good[:2] + ((1, 0),) + good[3:], good[:2] + ((0, 1, 1),) + good[3:], good[:2] + ((0, 1, 2),) + good[3:],
                      good[:2] + ((False, 1),) + good[3:], good[:3] + (((1,),),), good[:3] + (((1,), (1,), (1,)),),
                      good[:3] + (((), (1,)),), good[:3] + (((1,), ()),), good[:3] + (((0,), (1,)),),
                      good[:3] + (((1,), (0, 1)),), good[:3] + (((1,), 1),), good[:3] + (((True,), (1,)),)):
            self.assertIs(why_holds(HAS, (0, 1), value), False, value)


class Turns(Case):
    def test_told(self):
        self.assertIsNone(turning(HAS, ()))
        self.assertEqual(turning(ONE, (OPEN,)), (0, ("sure", (True,), (0,), ((0,),)), None))
        self.assertEqual(turning(HAS, [["open", "b"], ["open", "a"], ["close"]])[0], 2)

    def test_all_prefixes(self):
        chance = seeded(409)
        seen = set()
        for machine in any_machines(300, 410):
            prefix = some_prefix(chance, chance.randint(0, 8), ("a", "b"), ("t", "u"))
            told = turning(machine, prefix)
            self.assertTuples(told)
            known = earliest(machine, prefix)
            if known is None:
                self.assertIsNone(told)
                continue
            many = known[0]
            seen.add(min(many, 2))
            self.assertEqual(told[:2], (many, why(machine, stack_of(machine, prefix[:many]))))
            ahead = why(machine, stack_of(machine, prefix[:many - 1])) if many > 0 else None
            self.assertEqual(told[2], ahead)
            self.assertEqual(ahead is None or ahead[0], ahead is None or "open")
        self.assertEqual(seen, {0, 1, 2})

    def test_great(self):
        chance = seeded(411)
        for make in (some_machine, ordered_machine, ordered_machine) * 6:
            machine = make(chance, ("a", "b"), ("t", "u"), 6, 6, 3)
            stack = any_stack(chance, machine, 20)
            told = self.assertWithin(5, why, machine, stack)
            self.assertTrue(self.assertWithin(5, why_holds, machine, stack, told))
            self.assertWithin(5, turning, machine, some_prefix(chance, 40))
            machine = make(chance, ("a", "b"), ("t", "u"), 4, 4, 3)
            stack = any_stack(chance, machine, 20)
            self.assertWithin(5, endings, machine, stack)
            self.assertWithin(5, ending_to, machine, stack, machine[2][4][0])


if __name__ == "__main__":
    unittest.main()
