"""[63] to [65]: several questions at once, and what each of them costs."""

import itertools
import unittest

from stillopen.counts import counts_to, stack_machine
from stillopen.errors import BadStream, Refused, TooGreat
from stillopen.leastmachines import least_machine
from stillopen.leaststacks import least, least_stacks
from stillopen.likeness import alike
from stillopen.lots import inner_reached, top_reached
from stillopen.machines import answer, chosen
from stillopen.picture import machine_for
from stillopen.several import (
    counts_by, earliest_parts, first_less, is_needless, kinds_by, part, sure_parts, without,
)
from stillopen.stacks import stack_of
from stillopen.sure import answers_of, earliest, sure
from given import (
    ANY_VALUES, HAS, ONE, Case, any_machines, any_stack, as_lists, disguised, ordered_machine, seeded, some_document,
    some_machine, some_prefix, some_question,
)

QUESTION = (("label", "a"), ("child", 0, 1), ("text", "t", 1), ("or", 1, 2))
THREE = machine_for(QUESTION, (1, 2, 3))


def places(machine):
    return range(len(machine[2][4][0]))


def reached_stack(chance, machine, deep):
    """A stack of states that are come to."""
    return (chance.choice(top_reached(machine)),) + tuple(chance.choice(inner_reached(machine)) for _ in range(deep))


def need_of(machine):
    """How many states [40] has, of the least machine."""
    return stack_machine(least_machine(machine), most=2000)[0]


class Parts(Case):
    def test_told(self):
        document = (("element", "a", ()),)
        self.assertEqual([answer(part(THREE, place), document) for place in (0, 1, 2)], [(True,), (False,), (True,)])
        self.assertEqual([answer(without(THREE, place), document) for place in (0, 1, 2)],
                         [(False, True), (True, True), (True, False)])
        one, other = stack_of(THREE, [("open", "b")]), stack_of(THREE, [("open", "b"), ("text", "t")])
        self.assertEqual(kinds_by(THREE, one), kinds_by(THREE, other))

    def test_all_machines(self):
        chance = seeded(421)
        for machine in any_machines(60, 422, 3, 4, 3):
            document = some_document(chance)
            whole = answer(machine, document)
            for place in places(machine):
                self.assertEqual(part(machine, place), chosen(machine, (place,)))
                self.assertEqual(answer(part(as_lists(machine), place), document), (whole[place],))
                if len(whole) > 1:
                    self.assertEqual(answer(without(machine, place), document), whole[:place] + whole[place + 1:])
                    self.assertTuples(without(as_lists(machine), place))
                else:
                    self.assertFails(Refused, place, without, machine, place)
                    self.assertFails(Refused, place, is_needless, machine, place, most=9)
            stack = reached_stack(chance, machine, chance.randint(0, 4))
            told = kinds_by(machine, list(stack))
            self.assertTuples(told)
            self.assertEqual(told, tuple(least(part(machine, place), stack) for place in places(machine)))

    def test_alike_just_if_for_each(self):
        chance = seeded(423)
        unlike = 0
        for machine in any_machines(150, 424, 3, 4, 3):
            deep = chance.randint(0, 4)
            one, other = reached_stack(chance, machine, deep), reached_stack(chance, machine, deep)
            told = [alike(part(machine, place), one, other) for place in places(machine)]
            self.assertEqual(alike(machine, one, other), all(told))
            by_one, by_other = kinds_by(machine, one), kinds_by(machine, other)
            self.assertEqual([by_one[place] == by_other[place] for place in places(machine)], told)
            unlike += not all(told) and any(told)
        self.assertGreater(unlike, 10)

    def test_wrong(self):
        for call in (part, without):
            self.assertMachineFirst(lambda value: call(value, None))
        self.assertMachineFirst(lambda value: kinds_by(value, None))
        self.assertMachineFirst(lambda value: counts_by(value, None, most=1))
        self.assertMachineFirst(lambda value: first_less(value, most=1))
        self.assertMachineFirst(lambda value: is_needless(value, None, most=1))
        self.assertMachineFirst(lambda value: sure_parts(value, None))
        self.assertMachineFirst(lambda value: earliest_parts(value, None))
        for place in (3, -1, True, False, None, "0", (0,)):
            self.assertFails(Refused, place, part, THREE, place)
            self.assertFails(Refused, place, without, THREE, place)
            self.assertFails(Refused, place, is_needless, THREE, place, most=99)
        self.assertFails(Refused, 0, without, HAS, 0)
        self.assertFails(Refused, 0, is_needless, HAS, 0, most=99)
        # Inner state 2 and top state 2 are not come to.
        lost = ((), (), (3, 0, ((1, 0, 2),), ((0, 1, 2),) * 3, ((True,), (False,), (True,))),
                (3, (0,), ((1, 0, 2),), ((0, 1, 2),) * 3))
        for stack in ((), None, (3,), (0, 3), (True,), "0", (2,), (0, 2), (2, 0), [0, 2], [1, 0, 2]):
            self.assertFails(Refused, stack, kinds_by, lost, stack)
        for stack in ((), None, (3,), (0, 3), (True,), "0"):
            self.assertFails(Refused, stack, sure_parts, lost, stack)
        self.assertEqual(sure_parts(lost, (2, 2)), (True,))
        for depth in (-1, True, None, "1", (1,)):
            self.assertFails(Refused, depth, counts_by, THREE, depth, most=1)
        for at, prefix in ((-1, None), (0, (("close",),)), (1, (("open", "a"), ("open", "A")))):
            self.assertFails(BadStream, at, earliest_parts, THREE, prefix)
        for value in ANY_VALUES:
            self.assertOnly((Refused,), part, THREE, value)
            self.assertOnly((Refused,), without, THREE, value)
            self.assertOnly((Refused,), kinds_by, THREE, value)
            self.assertOnly((Refused,), sure_parts, THREE, value)
            self.assertOnly((Refused,), is_needless, THREE, value, most=99)
            self.assertOnly((BadStream,), earliest_parts, THREE, value)
            if not isinstance(value, int) or value < 9:
                self.assertOnly((Refused,), counts_by, ONE, value, most=99)
        for call in (lambda: counts_by(THREE, 1, 9), lambda: first_less(THREE, 9), lambda: is_needless(THREE, 0, 9)):
            with self.assertRaises(TypeError):
                call()


class Costs(Case):
    def test_told(self):
        self.assertEqual(counts_by(THREE, 2, most=200), ((4, 4, 4), ((2, 2, 2), (2, 2, 2), (2, 2, 2))))
        self.assertEqual([is_needless(THREE, place, most=200) for place in (0, 1, 2)], [False, False, True])
        self.assertEqual((first_less(THREE, most=200), first_less(chosen(THREE, (0, 1)), most=200)), (0, None))
        # One question alone; the same one twice.
        self.assertIsNone(first_less(HAS, most=99))
        self.assertEqual(first_less(chosen(HAS, (0, 0)), most=99), 0)
        self.assertTrue(is_needless(chosen(HAS, (0, 0)), 0, most=99))
        # A word that is always the same costs nothing.
        always = machine_for((("label", "a"), ("inside", 0), ("not", 1), ("or", 1, 2)), (1, 3))
        self.assertTrue(is_needless(always, 1, most=99))
        self.assertIsNone(first_less(always, most=99))
        # Words that hang on one another only where a level is open: at depth 0 there are all pairs.
        within = machine_for((("text", None, 2), ("not", 0), ("modulo", 0, 2, 0), ("last", 1)), (2, 3))
        self.assertEqual(first_less(within, most=500), 1)
        rows = counts_by(within, 1, most=500)
        self.assertEqual([rows[0][at] - rows[1][0][at] * rows[1][1][at] for at in (0, 1)][0], 0)
        self.assertLess(rows[0][1], rows[1][0][1] * rows[1][1][1])

    def test_counts(self):
        chance = seeded(425)
        late = set()
        for machine in any_machines(150, 426, 3, 4, 3):
            told = counts_by(machine, 4, most=2000)
            self.assertTuples(told)
            for depth in range(3):
                self.assertEqual(told[0][depth], len(least_stacks(machine, depth, most=2000)))
            self.assertEqual(told[0], counts_to(machine, 4, most=2000))
            self.assertEqual(told[1], tuple(counts_to(part(machine, place), 4, most=2000) for place in places(machine)))
            products = []
            for depth in range(5):
                product = 1
                for row in told[1]:
                    product *= row[depth]
                    self.assertLessEqual(row[depth], told[0][depth])
                products.append(product)
                self.assertLessEqual(told[0][depth], product)
            first = first_less(machine, most=2000)
            unlike = [depth for depth in range(5) if told[0][depth] != products[depth]]
            self.assertEqual(first if first is None or first < 5 else None, unlike[0] if unlike else None)
            late.add(first)
            hidden = disguised(chance, machine, machine[3][0] + 2, machine[2][0] + 2)
            self.assertEqual(counts_by(hidden, 4, most=2000), told)
            self.assertEqual(first_less(hidden, most=2000), first)
        self.assertTrue({None, 0} <= late)

    def test_needless(self):
        chance = seeded(427)
        seen = set()
        for machine in any_machines(150, 428, 3, 4, 3):
            if chance.random() < 0.5 and len(places(machine)) < 3:
                # A word more that is one of the others.
                words = [one + (one[0],) for one in machine[2][4]]
                machine = machine[:2] + (machine[2][:4] + (tuple(words),),) + machine[3:]
            for place in places(machine) if len(places(machine)) > 1 else ():
                told = is_needless(machine, place, most=2000)
                rest = without(machine, place)
                seen.add(told)
                alike_rows = counts_to(machine, 5, most=2000) == counts_to(rest, 5, most=2000)
                self.assertLessEqual(told, alike_rows)
                for depth in range(3):
                    stacks = itertools.product(top_reached(machine), *[inner_reached(machine)] * depth)
                    kinds = {least(rest, stack): least(machine, stack) for stack in stacks}
                    self.assertLessEqual(told, len(set(kinds.values())) == len(least_stacks(machine, depth, most=2000)))
                if not told:
                    one, other = need_of(machine), need_of(rest)
                    self.assertNotEqual(counts_to(machine, one + other, most=2000), counts_to(rest, one + other, most=2000))
        self.assertEqual(seen, {True, False})

    def test_most(self):
        raised = 0
        for machine in any_machines(60, 429, 3, 4, 3):
            told = counts_by(machine, 3, most=2000)
            for most in (1, 2, 3):
                for call, wanted in ((lambda: counts_by(machine, 3, most=most), told),
                                     (lambda: first_less(machine, most=most), first_less(machine, most=2000))):
                    again = self.assertOnly((TooGreat,), call)
                    if isinstance(again, TooGreat):
                        self.assertEqual(again.most, most)
                        raised += 1
                    else:
                        self.assertEqual(again, wanted)
        self.assertGreater(raised, 0)


class SureParts(Case):
    def test_told(self):
        self.assertEqual(sure_parts(THREE, stack_of(THREE, [("text", "t")])), (None, True, True))
        self.assertEqual(earliest_parts(THREE, [("open", "a"), ("close",)]), ((1, True), None, (1, True)))
        self.assertEqual(earliest_parts(THREE, ()), (None, None, None))
        self.assertEqual(earliest_parts(ONE, ()), ((0, True),))

    def test_all_machines(self):
        chance = seeded(430)
        for machine in any_machines(150, 431, 3, 4, 3):
            stack = any_stack(chance, machine, chance.randint(0, 3))
            told = sure_parts(machine, stack)
            self.assertTuples(told)
            self.assertEqual(sure_parts(as_lists(machine), list(stack)), told)
            answers = answers_of(machine, stack)
            for place in places(machine):
                words = {one[place] for one in answers}
                self.assertEqual({told[place]} if told[place] is not None else {True, False}, words)
                self.assertEqual(sure(part(machine, place), stack), None if told[place] is None else (told[place],))
            self.assertEqual(sure(machine, stack), None if None in told else told)
            prefix = some_prefix(chance, chance.randint(0, 8), ("a", "b"), ("t", "u"))
            told = earliest_parts(machine, prefix)
            self.assertTuples(told)
            for place in places(machine):
                wanted = earliest(part(machine, place), prefix)
                self.assertEqual(told[place], wanted and (wanted[0], wanted[1][0]))
            wanted = earliest(machine, prefix)
            if wanted is None:
                self.assertIn(None, told)
            else:
                self.assertEqual(wanted, (max(many for many, _ in told), tuple(word for _, word in told)))

    def test_great(self):
        chance = seeded(432)
        done = 0
        while done < 12:
            machine = chance.choice((some_machine, ordered_machine))(chance, ("a",), ("t",), 3, 4, 3)
            if chance.random() < 0.3:
                machine = machine_for(some_question(chance, 8, ("a",), ("t",)), (5, 6, 7))
                if machine[3][0] > 3 or machine[2][0] > 4:
                    continue
            done += 1
            machine = disguised(chance, machine, 8, 8, ("a", "b"), ("t", "u"))
            self.assertWithin(10, kinds_by, machine, reached_stack(chance, machine, 6))
            self.assertOnly((TooGreat,), self.assertWithin, 10, counts_by, machine, 40, most=2000)
            self.assertOnly((TooGreat,), self.assertWithin, 10, first_less, machine, most=2000)
            for place in range(3):
                self.assertOnly((TooGreat,), self.assertWithin, 10, is_needless, machine, place, most=2000)
            self.assertWithin(5, sure_parts, machine, reached_stack(chance, machine, 6))
            self.assertWithin(5, earliest_parts, machine, some_prefix(chance, 40))


if __name__ == "__main__":
    unittest.main()
