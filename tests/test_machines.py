"""[15] to [18]: machines, and others made of them."""

import unittest

from stillopen.errors import BadForm, BadMachine, Refused
from stillopen.machines import (
    all_of, answer, any_of, check_machine, chosen, kind_of, not_of, other_label, other_text, side_by_side, trimmed, widened,
)
from given import (
    ANY_VALUES, HAS, ONE, Case, as_lists, great_machine, read_plainly, seeded, some_document, some_machine,
    turning_machine,
)

SIX = ("a", "b", "c", "d", "e", "f")
NO_NAMES = (None, 3, "ab", True, ("b", "a"), ("a", "a"), (1,), (None,), (True,), (("a",),))
OF_MACHINES = (
    check_machine, other_label, other_text, not_of, all_of, any_of, trimmed, lambda value: answer(value, None),
    lambda value: widened(value, None, None), lambda value: chosen(value, None), lambda value: side_by_side(value, None),
    lambda value: side_by_side(ONE, value),
)


def el(label, *row):
    return ("element", label, row)


def come_to(machine):
    """How many inner states, how many top states rows come to, told by going on until nothing is new."""
    _, _, tops, inners = machine
    inner, top = set(inners[1]), {tops[1]}
    while True:
        more = {row[state] for row in inners[2] for state in inner}
        more |= {inners[3][child][state] for child in inner for state in inner}
        above = {row[state] for row in tops[2] for state in top} | {tops[3][child][state] for child in inner for state in top}
        if more <= inner and above <= top:
            return len(inner), len(top)
        inner |= more
        top |= above


def with_part(machine, path, value):
    """The machine with another value at a place, told part by part."""
    if not path:
        return value
    parts = list(machine)
    parts[path[0]] = with_part(parts[path[0]], path[1:], value)
    return tuple(parts)


class Checks(Case):
    def test_good(self):
        for machine in (HAS, ONE, some_machine(seeded(1), SIX, ("", "a", "b", "t"), 3, 4, 8), great_machine(200, 8)):
            self.assertEqual(check_machine(machine), machine)
            self.assertEqual(check_machine(as_lists(machine)), machine)
            self.assertTuples(check_machine(as_lists(machine)))
        given = as_lists(HAS)
        told = check_machine(given)
        given[2][2][0][0] = 9
        self.assertEqual(told, HAS)

    def assertBad(self, at, value):
        for call in OF_MACHINES:
            self.assertFails(BadMachine, at, call, value)

    def test_shapes(self):
        for value in (None, 3, "abcd", True, (), HAS[:3], HAS + ((),), {}):
            self.assertBad(-1, value)
        self.assertBad(0, (None, None, None, None))
        self.assertBad(1, ((), None, None, None))
        self.assertBad(3, ((), (), None, None))
        self.assertBad(2, ((), (), None, ONE[3]))

    def test_names(self):
        for names in NO_NAMES + (("",), ("A",), ("a", "b", "c", "d", "e", "f", "g"), ("a" * 13,), ("ab", "a")):
            self.assertBad(0, (names,) + HAS[1:])
        for names in NO_NAMES + (("", "a", "b", "c", "d"), ("x" * 65536,), ("a", "")):
            self.assertBad(1, (HAS[0], names) + HAS[2:])
        wide = widened(HAS, SIX, ("", "a", "aa", "b"))
        self.assertEqual(wide[:2], (SIX, ("", "a", "aa", "b")))
        self.assertBad(3, (SIX,) + HAS[1:])
        self.assertBad(3, (HAS[0], ("t",)) + HAS[2:])

    def test_inner_parts(self):
        for path, values in (
            ((), (None, 3, "abcd", HAS[3][:3], HAS[3] + (0,), ())),
            ((0,), (0, 1, 3, 201, -1, True, None, "2", 10 ** 30)),
            ((1,), ((1,), (1, 0, 0), (2, 0), (0, -1), (True, 0), None, 3, (0, None), "10")),
            ((2,), ((), ((0, 1), (0, 1)), None, ((0,),), ((0, 1, 1),), ((0, 2),), ((0, -1),), ((False, 1),), (None,))),
            ((3,), ((), ((0, 1),), ((0, 1), (1, 1), (1, 1)), None, ((0, 1), (1,)), ((0, 1), (1, 2)), ((0, 1), (1, True)),
                    ((0, 1), None), ((0, 1), (1, "1")))),
        ):
            for value in values:
                self.assertBad(3, HAS[:3] + (with_part(HAS[3], path, value),))
                self.assertBad(3, (HAS[0], HAS[1], None, with_part(HAS[3], path, value)))

    def test_top_parts(self):
        for path, values in (
            ((), (None, 3, "abcde", HAS[2][:4], HAS[2] + (0,), ())),
            ((0,), (0, 1, 3, 201, -1, True, None, "2", 10 ** 30)),
            ((1,), (2, -1, True, False, None, "0", (0,))),
            ((2,), ((), ((0, 1), (0, 1)), None, ((0,),), ((0, 1, 1),), ((0, 2),), ((0, -1),), ((False, 1),), (None,))),
            ((3,), ((), ((0, 1),), ((0, 1), (1, 1), (1, 1)), None, ((0, 1), (1,)), ((0, 1), (1, 2)), ((0, 1), (1, True)),
                    ((0, 1), None))),
            ((4,), ((), ((False,),), ((False,), (True,), (True,)), None, ((), ()), ((False,), (True, True)), ((0,), (1,)),
                    ((False,), (None,)), ((False,) * 9, (True,) * 9), (False, True), ((False,), None), ("a", "b"),
                    ((False, False), (True,)))),
        ):
            for value in values:
                self.assertBad(2, HAS[:2] + (with_part(HAS[2], path, value), HAS[3]))

    def test_limits(self):
        check_machine(great_machine(200, 8))
        self.assertBad(3, great_machine(201))
        tops = turning_machine(201)[2]
        self.assertBad(2, ((), (), tops[:3] + (tops[3][:1],) + tops[4:], ONE[3]))

    def test_any_value(self):
        for value in ANY_VALUES:
            for call in (check_machine, other_label, other_text, not_of, all_of, any_of, trimmed):
                self.assertTuples(self.assertOnly((BadMachine,), call, value))
            self.assertOnly((BadMachine, Refused), widened, value, value, value)
            self.assertOnly((Refused,), widened, HAS, value, ())
            self.assertOnly((Refused,), widened, HAS, ("a",), value)
            self.assertOnly((Refused,), chosen, HAS, value)
            self.assertOnly((BadMachine,), side_by_side, HAS, value)
            self.assertOnly((BadForm,), answer, HAS, value)


class Answers(Case):
    def test_kinds(self):
        self.assertEqual([kind_of(("a", "c"), name) for name in ("a", "c", "b", "", "z")], [0, 1, 2, 2, 2])
        self.assertEqual(kind_of([], "a"), 0)
        self.assertEqual(kind_of(["", "\u00e9"], "\u00e9"), 1)

    def test_others(self):
        for labels, other in (((), "a"), (("a",), "b"), (("b",), "a"), (SIX, "g"), (("a", "aa", "c"), "b"), (("aa",), "a")):
            self.assertEqual(other_label(widened(ONE, labels, ())), other)
        for texts, other in (((), ""), (("",), "a"), (("", "a"), "aa"), (("a",), ""), (("", "a", "aa", "aaa"), "aaaa"),
                             (("", "aa"), "a"), (("b",), "")):
            self.assertEqual(other_text(widened(ONE, (), texts)), other)

    def test_by_recursion(self):
        chance = seeded(15)
        for _ in range(150):
            names = (chance.choice(((), ("a",), ("a", "c"))), chance.choice(((), ("",), ("t", "u"))))
            machine = some_machine(chance, names[0], names[1], chance.randint(1, 4), chance.randint(1, 4), chance.randint(1, 3))
            for _ in range(8):
                document = some_document(chance, 12)
                self.assertEqual(answer(machine, document), read_plainly(machine, document))
                self.assertEqual(answer(as_lists(machine), as_lists(document)), read_plainly(machine, document))

    def test_errors_in_order(self):
        self.assertFails(BadMachine, 0, answer, with_part(HAS, (0,), None), None)
        self.assertFails(BadForm, -1, answer, HAS, None)
        self.assertFails(BadForm, 1, answer, HAS, (el("a", None),))

    def test_great(self):
        machine = great_machine(200, 8)
        row = ()
        for _ in range(18):
            row = (el("a", *row),) + (("text", "t"),) * 10
        self.assertEqual(self.assertWithin(3, answer, machine, row), read_plainly(machine, row))


class Others(Case):
    def test_widened(self):
        chance = seeded(17)
        for _ in range(80):
            machine = some_machine(chance, ("a", "c"), ("", "t"))
            wide = widened(as_lists(machine), ["a", "b", "c", "d"], ["", "a b", "t"])
            self.assertEqual(check_machine(wide), wide)
            self.assertTuples(wide)
            self.assertEqual(wide[:2], (("a", "b", "c", "d"), ("", "a b", "t")))
            self.assertEqual((wide[2][0], wide[3][0]), (machine[2][0], machine[3][0]))
            self.assertEqual((wide[2][1], wide[2][3:], wide[3][3]), (machine[2][1], machine[2][3:], machine[3][3]))
            self.assertEqual(widened(machine, ("a", "c"), ("", "t")), machine)
            for _ in range(6):
                document = some_document(chance, 10)
                self.assertEqual(answer(wide, document), answer(machine, document))

    def test_widened_wrong(self):
        machine = widened(HAS, ("a", "c"), ("", "t"))
        for labels in NO_NAMES + (("a",), (), ("c",), ("a", "b"), ("a", "b", "c", "d", "e", "f", "g"), ("A", "a", "c")):
            self.assertFails(Refused, labels, widened, machine, labels, None)
        for texts in NO_NAMES + (("",), (), ("t",), ("", "u"), ("", "a", "b", "c", "t")):
            self.assertFails(Refused, texts, widened, machine, ["a", "c"], texts)

    def test_words(self):
        chance = seeded(18)
        for _ in range(60):
            machine = some_machine(chance, words=3)
            places = [chance.randrange(3) for _ in range(chance.randint(1, 8))]
            made = (not_of(as_lists(machine)), all_of(machine), any_of(machine), chosen(as_lists(machine), places))
            for one in made:
                self.assertEqual(check_machine(one), one)
                self.assertTuples(one)
                self.assertEqual((one[:2], one[2][:4], one[3]), (machine[:2], machine[2][:4], machine[3]))
            for _ in range(4):
                document = some_document(chance, 8)
                words = answer(machine, document)
                self.assertEqual(answer(made[0], document), tuple(not word for word in words))
                self.assertEqual(answer(made[1], document), (all(words),))
                self.assertEqual(answer(made[2], document), (any(words),))
                self.assertEqual(answer(made[3], document), tuple(words[place] for place in places))

    def test_chosen_wrong(self):
        machine = some_machine(seeded(2), words=3)
        for places in (None, 0, "0", True, (), [], (0,) * 9, (3,), (-1,), (0, 3), (True,), (0, False), (None,), ((0,),), ("0",)):
            self.assertFails(Refused, places, chosen, machine, places)
        self.assertEqual(len(chosen(machine, (0,) * 8)[2][4][0]), 8)

    def test_trimmed(self):
        chance = seeded(19)
        for _ in range(200):
            machine = some_machine(chance, chance.choice(((), ("a",), ("a", "b"))), chance.choice(((), ("t",))),
                                   chance.randint(1, 6), chance.randint(1, 6))
            made = trimmed(as_lists(machine))
            self.assertEqual(check_machine(made), made)
            self.assertTuples(made)
            self.assertEqual(made[:2], machine[:2])
            self.assertEqual((made[3][0], made[2][0]), come_to(machine))
            self.assertEqual((made[3][0], made[2][0]), come_to(made))
            for _ in range(5):
                document = some_document(chance, 8, labels=("a", "b", "c"), texts=("t", "u"))
                self.assertEqual(answer(made, document), answer(machine, document))

    def test_trimmed_limits(self):
        for machine in (great_machine(200), turning_machine(200), turning_machine(199)):
            made = self.assertWithin(5, trimmed, machine)
            self.assertEqual((made[3][0], made[2][0]), (machine[3][0], machine[2][0]))
        two = with_part(turning_machine(6), (3, 2), ((1, 0, 3, 4, 5, 2),))
        self.assertEqual(trimmed(two)[3][0], 2)


class SideBySide(Case):
    def test_many(self):
        chance = seeded(20)
        for _ in range(120):
            one = some_machine(chance, chance.choice(((), ("a",), ("a", "b"))), chance.choice(((), ("t",))), words=2)
            two = some_machine(chance, chance.choice(((), ("b",), ("a", "c"))), chance.choice(((), ("", "u"))), words=1)
            both = side_by_side(as_lists(one), as_lists(two))
            self.assertEqual(check_machine(both), both)
            self.assertTuples(both)
            self.assertEqual(both[0], tuple(sorted(set(one[0] + two[0]))))
            self.assertEqual(both[1], tuple(sorted(set(one[1] + two[1]))))
            for _ in range(5):
                document = some_document(chance, 10)
                self.assertEqual(answer(both, document), answer(one, document) + answer(two, document))

    def test_names(self):
        one = widened(HAS, ("a", "b", "c", "d"), ("", "t"))
        self.assertEqual(side_by_side(one, widened(ONE, ("d", "e", "f"), ("a", "b")))[:2], (SIX, ("", "a", "b", "t")))
        seven = SIX + ("g",)
        self.assertFails(Refused, seven, side_by_side, one, widened(ONE, ("e", "f", "g"), ("u", "v", "w")))
        self.assertFails(Refused, seven, side_by_side, as_lists(one), as_lists(widened(ONE, ("e", "f", "g"), ())))
        self.assertFails(Refused, ("", "t", "u", "v", "w"), side_by_side, one, widened(ONE, SIX, ("u", "v", "w")))

    def test_states(self):
        for many, other in ((10, 21), (14, 15), (200, 1)):
            one, two = turning_machine(many), turning_machine(other)
            if many * other <= 200:
                self.assertEqual(side_by_side(one, two)[3][0], many * other)
            else:
                self.assertFails(BadMachine, 3, side_by_side, one, two)
        self.assertEqual(side_by_side(turning_machine(8), turning_machine(25))[2][0], 200)
        self.assertEqual(side_by_side(turning_machine(20), turning_machine(30))[2][0], 60)
        self.assertFails(BadMachine, 3, side_by_side, turning_machine(3), turning_machine(67))
        flat = (1, (0,), ((0,),), ((0,),))
        tops = [turning_machine(many)[2] for many in (3, 67, 66)]
        machines = [((), (), top[:3] + (top[3][:1],) + top[4:], flat) for top in tops]
        self.assertFails(BadMachine, 2, side_by_side, machines[0], machines[1])
        self.assertEqual(side_by_side(machines[0], machines[2])[2][0], 66)
        self.assertEqual(side_by_side(machines[1], ONE)[2][0], 67)
        self.assertEqual((side_by_side(great_machine(200), great_machine(200))[2][0]), 200)

    def test_words(self):
        one, two = some_machine(seeded(3), words=5), some_machine(seeded(4), words=4)
        self.assertFails(BadMachine, 2, side_by_side, one, two)
        self.assertEqual(len(side_by_side(one, chosen(two, (3, 1, 0)))[2][4][0]), 8)
        self.assertFails(BadMachine, 3, side_by_side, chosen(turning_machine(15), (0,) * 8), turning_machine(14))
        self.assertFails(Refused, SIX + ("g",), side_by_side, widened(one, SIX, ("t",)), widened(two, ("a", "g"), ("t",)))

    def test_great(self):
        both = self.assertWithin(5, side_by_side, great_machine(200, 4), great_machine(200, 4))
        self.assertEqual(both[3][0], 200)
        self.assertWithin(5, self.assertFails, BadMachine, 3, side_by_side, turning_machine(200), turning_machine(199))
        self.assertWithin(5, self.assertFails, BadMachine, 3, side_by_side, great_machine(200), great_machine(200, 1, 3))


if __name__ == "__main__":
    unittest.main()
