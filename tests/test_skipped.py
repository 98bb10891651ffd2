"""[57] to [59]: idle levels, which need not be looked at."""

import unittest

from stillopen.documents import document_of
from stillopen.errors import BadStream, Refused
from stillopen.leaststacks import least
from stillopen.likeness import alike
from stillopen.lots import inner_reached, top_reached
from stillopen.machines import answer
from stillopen.picture import machine_for
from stillopen.skipped import asked, asked_holds, bare, gaps, idle_level, is_idle, is_skipped, looked_at
from stillopen.stacks import after, answer_by
from stillopen.streams import check_ending, is_ending
from given import (
    ANY_VALUES, HAS, ONE, Case, any_machines, any_stack, as_lists, endings_of, ordered_machine, seeded, signs_for,
    some_machine, some_prefix, step_plainly,
)

OPEN, CLOSE, TEXT = ("open", "a"), ("close",), ("text", "t")
# Whether the first element of the document is an a: all behind it, and all within, is idle.
FIRST = machine_for((("label", "a"), ("first", 0)), (1,))


def behind_closing(machine, stack, level, extra=3):
    """By stack behind the closing of a level how many signs the shortest way has that goes on to there."""
    signs = signs_for(machine)
    told, row, seen, many = {}, [stack], {stack}, 0
    while row:
        news = []
        for one in row:
            for sign in signs:
                if sign[0] == "open" and len(one) == len(stack) + extra:
                    continue
                behind = step_plainly(machine, one, sign)
                if len(behind) == level:
                    told.setdefault(behind, many)
                elif behind not in seen:
                    seen.add(behind)
                    news.append(behind)
        row, many = news, many + 1
    return told


def is_idle_plainly(machine, stack, level):
    """Whether all stacks behind the closing of a level are alike."""
    stacks = list(behind_closing(machine, stack, level))
    return all(alike(machine, stacks[0], other) for other in stacks[1:])


def gaps_plainly(machine, stream):
    """The gaps of a stream, told straight from [59]."""
    found, at, stack = [], 0, (machine[2][1],)
    stacks = [stack]
    for sign in stream:
        stacks.append(step_plainly(machine, stacks[-1], sign))
    while at < len(stream):
        at += 1
        levels = [level for level in range(1, len(stacks[at])) if is_idle_plainly(machine, stacks[at], level)]
        if levels:
            closing = at
            while len(stacks[closing + 1]) > levels[0]:
                closing += 1
            if closing > at:
                found.append((at, closing))
            at = closing
    return tuple(found)


def some_stream(chance, many):
    prefix = some_prefix(chance, many, ("a", "b"), ("t", "u"))
    level = sum({"open": 1, "close": -1}.get(sign[0], 0) for sign in prefix)
    return prefix + (CLOSE,) * level


class IdleLevels(Case):
    def test_told(self):
        self.assertEqual((is_idle(HAS, (0, 1), 1), is_idle(HAS, (0, 0), 1), idle_level(HAS, (0, 0))), (True, False, None))
        self.assertEqual((idle_level(HAS, (1, 0)), idle_level(HAS, [0, 0, 1, 0]), idle_level(HAS, (0,))), (1, 1, None))
        self.assertEqual((is_skipped(HAS, (1,), "b"), is_skipped(HAS, [0, 1], "zz")), (True, True))
        # Idle levels within idle ones.
        self.assertEqual([is_idle(HAS, (1, 0, 0, 1), level) for level in (1, 2, 3)], [True] * 3)
        self.assertEqual([is_idle(FIRST, (0, 0, 0), level) for level in (1, 2)], [is_idle(FIRST, (0, 0), 1)] * 2)

    def test_all_ways(self):
        chance = seeded(381)
        kinds = {}
        for machine in any_machines(120, 382):
            for deep in range(1, 4):
                stack = any_stack(chance, machine, deep)
                wanted = [is_idle_plainly(machine, stack, level) for level in range(1, deep + 1)]
                told = [is_idle(machine, stack, level) for level in range(1, deep + 1)]
                self.assertEqual(told, wanted)
                self.assertEqual(is_idle(as_lists(machine), list(stack), deep), wanted[-1])
                # If a level is idle, all within it are.
                self.assertEqual(told, sorted(told))
                self.assertEqual(idle_level(machine, stack), told.index(True) + 1 if True in told else None)
                kinds[(deep, told.count(True))] = kinds.get((deep, told.count(True)), 0) + 1
                label = chance.choice(("a", "b"))
                self.assertEqual(is_skipped(machine, stack, label),
                                 is_idle(machine, after(machine, stack, ("open", label)), deep + 1))
                sign = chance.choice(signs_for(machine, False))
                behind = after(machine, stack, sign)
                for level in range(1, deep + 1):
                    self.assertLessEqual(told[level - 1], is_idle(machine, behind, level))
        self.assertEqual(len(kinds), 9, kinds)

    def test_alike_stacks(self):
        chance = seeded(383)
        for machine in any_machines(80, 384):
            stack = (chance.choice(top_reached(machine)),) + tuple(chance.choice(inner_reached(machine)) for _ in range(3))
            self.assertEqual(idle_level(machine, stack), idle_level(machine, least(machine, stack)))

    def test_wrong(self):
        for call in (is_idle, is_skipped, asked):
            self.assertMachineFirst(lambda value: call(value, None, None))
        self.assertMachineFirst(lambda value: idle_level(value, None))
        self.assertMachineFirst(lambda value: asked_holds(value, None, None, None))
        for call in (gaps, bare, looked_at):
            self.assertMachineFirst(lambda value: call(value, None))
            for at, stream in ((-1, None), (0, (CLOSE,)), (1, (TEXT, None)), (1, (OPEN,)), (3, (OPEN, OPEN, CLOSE))):
                self.assertFails(BadStream, at, call, HAS, stream)
        for stack in ((), None, (2,), (0, 2), (True,), "0"):
            for call in (is_idle, is_skipped, asked):
                self.assertFails(Refused, stack, call, HAS, stack, None)
            self.assertFails(Refused, stack, idle_level, HAS, stack)
            self.assertFails(Refused, stack, asked_holds, HAS, stack, None, None)
        for level in (0, 3, -1, True, None, "1", (1,)):
            for call in (is_idle, asked):
                self.assertFails(Refused, level, call, HAS, (0, 0, 0), level)
            self.assertFails(Refused, level, asked_holds, HAS, (0, 0, 0), level, None)
        self.assertFails(Refused, 1, is_idle, HAS, (0,), 1)
        for label in ("", "A", None, 3, "a" * 13, ("a",)):
            self.assertFails(Refused, label, is_skipped, HAS, (0,), label)
        for value in ANY_VALUES:
            for call in (is_idle, is_skipped, asked):
                self.assertOnly((Refused,), call, HAS, value, value)
                self.assertOnly((Refused,), call, HAS, (0, 0), value)
            self.assertOnly((Refused,), idle_level, HAS, value)
            self.assertOnly((Refused,), asked_holds, HAS, value, value, value)
            self.assertIs(asked_holds(HAS, (0, 0), 1, value), False)
            for call in (gaps, bare, looked_at):
                self.assertOnly((BadStream,), call, HAS, value)


class Asked(Case):
    def test_told(self):
        self.assertIsNone(asked(HAS, (0, 1), 1))
        way, other, ending = asked(HAS, (0, 0), 1)
        self.assertEqual({(), (OPEN, CLOSE)}, {way, other})
        self.assertEqual(ending, ())

    def test_all_ways(self):
        chance = seeded(385)
        found = 0
        for machine in any_machines(300, 386):
            for deep in range(1, 4):
                stack = any_stack(chance, machine, deep)
                for level in range(1, deep + 1):
                    told = asked(machine, stack, level)
                    self.assertTuples(told)
                    self.assertEqual(told is None, is_idle(machine, stack, level))
                    ways = [ending for many in range(deep - level, deep - level + 3)
                            for ending in endings_of(deep - level, many, ("a", "b"), ("t",))]
                    if told is None:
                        ending = chance.choice(endings_of(level - 1, level + 1, ("a",), ("t",)))
                        for way in ways:
                            self.assertFalse(asked_holds(machine, stack, level, (ways[0], way, ending)))
                        continue
                    found += 1
                    way, other, ending = told
                    self.assertEqual(check_ending(deep - level, way), way)
                    self.assertEqual(check_ending(deep - level, other), other)
                    self.assertEqual(check_ending(level - 1, ending), ending)
                    answers = {answer_by(machine, stack, one + (CLOSE,) + ending) for one in (way, other)}
                    self.assertEqual(len(answers), 2)
                    self.assertTrue(asked_holds(machine, stack, level, told))
                    self.assertTrue(asked_holds(as_lists(machine), list(stack), level, as_lists(told)))
                    self.assertFalse(asked_holds(machine, stack, level, (way, way, ending)))
        self.assertGreater(found, 100)

    def test_no_such_three(self):
        way, other, ending = asked(HAS, (0, 0, 0), 2)
        self.assertTrue(asked_holds(HAS, (0, 0, 0), 2, [way, other, ending]))
        for value in (None, (), (way, other), (way, other, ending, ()), (way, other, None), (None, other, ending),
                      (way, None, ending), (way, other, ()), (way, other, ending + (CLOSE,)), (way + (CLOSE,), other, ending),
                      (way, (OPEN,), ending), (way, other, (TEXT,) + ending[:-1]), "abc"):
            self.assertIs(asked_holds(HAS, (0, 0, 0), 2, value), False)


class Gaps(Case):
    def test_told(self):
        signs = (("open", "b"), OPEN, ("text", "x"), CLOSE, ("text", "y"), CLOSE, ("text", "z"))
        self.assertEqual((gaps(HAS, signs), looked_at(HAS, signs)), (((2, 5),), 4))
        self.assertEqual(bare(HAS, as_lists(signs)), signs[:2] + (CLOSE, CLOSE, ("text", "z")))
        self.assertEqual((gaps(HAS, ()), bare(HAS, ()), looked_at(HAS, ())), ((), (), 0))
        # A gap of no sign is left out.
        self.assertEqual((gaps(HAS, (OPEN, CLOSE)), bare(HAS, (OPEN, CLOSE)), looked_at(HAS, (OPEN, CLOSE))),
                         ((), (OPEN, CLOSE), 2))
        # Behind the closing of an idle level another one begins.
        self.assertEqual(gaps(HAS, (OPEN, TEXT, CLOSE, ("open", "b"), TEXT, TEXT, CLOSE, TEXT)), ((1, 2), (4, 6)))
        # With one answer alone all is idle that is within something.
        self.assertEqual(gaps(ONE, (TEXT, OPEN, OPEN, TEXT, CLOSE, TEXT, CLOSE, TEXT)), ((2, 6),))
        self.assertEqual(bare(ONE, (TEXT, OPEN, OPEN, TEXT, CLOSE, TEXT, CLOSE, TEXT)), (TEXT, OPEN, CLOSE, TEXT))

    def test_all_streams(self):
        chance = seeded(387)
        many_gaps = 0
        for machine in any_machines(150, 388):
            stream = some_stream(chance, chance.randint(0, 12))
            wanted = gaps_plainly(machine, stream)
            self.assertEqual(gaps(machine, stream), wanted)
            self.assertEqual(gaps(as_lists(machine), as_lists(stream)), wanted)
            many_gaps += len(wanted)
            in_gaps = sum(behind - first for first, behind in wanted)
            self.assertEqual(looked_at(machine, stream), len(stream) - in_gaps)
            plain, at = (), 0
            other, other_at = (), 0
            for first, behind in wanted:
                closed = self.closed(stream[first:behind])
                plain += stream[at:first] + (CLOSE,) * closed
                other += stream[at:first]
                for _ in range(closed):
                    other += some_stream(chance, chance.randint(0, 4)) + (CLOSE,)
                other += some_stream(chance, chance.randint(0, 4))
                at = behind
            plain, other = plain + stream[at:], other + stream[at:]
            self.assertEqual(bare(machine, stream), plain)
            self.assertTuples(bare(as_lists(machine), as_lists(stream)))
            answers = {answer(machine, document_of(one)) for one in (stream, plain, other)}
            self.assertEqual(len(answers), 1)
            self.check_looked_at(machine, stream, wanted)
        self.assertGreater(many_gaps, 40)

    def closed(self, signs):
        """How many levels are closed that were open ahead of signs."""
        level, least_level = 0, 0
        for sign in signs:
            level += {"open": 1, "close": -1}.get(sign[0], 0)
            least_level = min(level, least_level)
        return -least_level

    def check_looked_at(self, machine, stream, wanted):
        """Behind each sign in no gap, where no level is idle, how each of them goes on is asked for by some ending."""
        stack = (machine[2][1],)
        for at, sign in enumerate(stream):
            stack = step_plainly(machine, stack, sign)
            if any(first <= at < behind for first, behind in wanted) or len(stack) == 1:
                continue
            if idle_level(machine, stack) is None:
                for level in range(1, len(stack)):
                    told = asked(machine, stack, level)
                    self.assertTrue(asked_holds(machine, stack, level, told))
                    self.assertTrue(is_ending(level - 1, told[2]))

    def test_great(self):
        chance = seeded(389)
        for make in (some_machine, ordered_machine, ordered_machine) * 6:
            machine = make(chance, ("a", "b"), ("t", "u"), 6, 6, 2)
            stack = any_stack(chance, machine, 20)
            self.assertWithin(5, idle_level, machine, stack)
            self.assertWithin(5, is_skipped, machine, stack, "a")
            for stream in (some_stream(chance, 34), (OPEN, TEXT) * 13 + (CLOSE,) * 13):
                self.assertWithin(5, gaps, machine, stream)
                self.assertWithin(5, bare, machine, stream)
            machine = make(chance, ("a", "b"), ("t", "u"), 4, 4, 2)
            stack = any_stack(chance, machine, 20)
            for level in (1, 10, 20):
                self.assertWithin(5, is_idle, machine, stack, level)
                told = self.assertWithin(5, asked, machine, stack, level)
                self.assertEqual(self.assertWithin(5, asked_holds, machine, stack, level, told), told is not None)


if __name__ == "__main__":
    unittest.main()
